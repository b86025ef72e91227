/- The reference's tree: a bracket with a name. -/
import Derived.Test.YtfollffpibmgcaaGreatDoorP43
import Derived.Laws.IdiomStrings
namespace Go.Proofs.YtfollffpibmgcaaGreatDoor
open Go.RowKit Go.Maps
set_option linter.unusedVariables false
set_option maxRecDepth 100000
theorem byte_conv (w : World) (q : Int) (h : 97 ≤ q ∧ q ≤ 122) : (convert 74 9 (.slice (some ⟨w.heap.size, 0, none⟩) 1 1)).run Tryz.prog (w.alloc (.cells #[.int .u8 q] 5)) = .ok (.string ⟨#[UInt8.ofNat q.toNat]⟩) (w.alloc (.cells #[.int .u8 q] 5)) := by
 have e : ((UInt8.ofNat q.toNat).toNat : Int) = q := by
  rw [UInt8.toNat_ofNat']
  omega
 have := run_convert_bytes_back (P := Tryz.prog) (w.alloc (.cells #[.int .u8 q] 5)) 74 9 5 ⟨w.heap.size, 0, none⟩ 1 [UInt8.ofNat q.toNat] Tryz.underlying74 Tryz.underlying5 Tryz.underlying9 (fun j hj => by
  have : j = 0 := by simp at hj; omega
  subst this
  rw [List.getElem_cons_zero, e]
  exact cell_one_new w (.int .u8 q) 5 0 _ rfl)
 simpa using this
theorem bytes_snoc (g : RG) (m i : Nat) (q : Int) (h : bytesOf g m (i + 1) = bytesOf g m i ++ [UInt8.ofNat q.toNat]) : (⟨(bytesOf g m i).toArray⟩ ++ ⟨#[UInt8.ofNat q.toNat]⟩ : ByteArray) = ⟨(bytesOf g m (i + 1)).toArray⟩ := by
 apply ByteArray.ext
 rw [ByteArray.data_append, h]
 simp
theorem names_cell {w : World} {base ty n : Nat} {v : Value} {xs : List Value} (h : w.ownsRow base ty 1 v n xs) (hn : 0 < n) : ∃ b cap, v = .slice (some ⟨b, 0, none⟩) n cap ∧ ∀ j x, j < n → xs[j]? = some x → w.cell? ⟨b, j, none⟩ = some x := by
 rcases h.2 with ⟨rfl, h0⟩ | ⟨g, cap, cur, rfl, a1, a2, a3, a4, a5, a6⟩
 ·omega
 ·refine ⟨g, cap, rfl, fun j x hj hx => ?_⟩
  rw [← a6, List.getElem?_take_of_lt (by omega)] at hx
  simp only [World.cell?, a2]
  simpa using hx
theorem pName_parts {g : RG} {s0 : RS} (hf : (pName g s0).flt.form = none) : ∃ e, s0.next < e ∧ e < g.rs.length ∧ (∀ j, s0.next ≤ j → j < e → inSet lLetters (g.rs.getD j (-1)) = true) ∧ g.rs.getD e (-1) = 62 ∧
  pName g s0 = if s0.names.any (fun p => p.1 == bytesOf g s0.next e) then ({ s0 with next := e + 1 } : RS).note 6 (g.ps.getD s0.next 0) else { s0 with next := e + 1, names := (bytesOf g s0.next e, s0.groups) :: s0.names } := by
 unfold pName at hf ⊢
 obtain ⟨n1, n2, n3⟩ := needSt_form hf
 rw [n3]
 rw [pNamed_form, pLetters_flt] at n2
 obtain ⟨l1, l2, l3⟩ := needSt_form n2
 rw [l3] at n1 ⊢
 have hE := pLetters_eq g s0.next (g.rs.length + 9) { s0 with next := s0.next + 1 }
 have hall := pLetters_all g s0.next (g.rs.length + 9) { s0 with next := s0.next + 1 }
 have hlt := seeOf_lt l1
 have hnx := pLetters_next g s0.next (g.rs.length + 9) { s0 with next := s0.next + 1 } (by simp; omega)
 generalize (pLetters g s0.next (g.rs.length + 9) { s0 with next := s0.next + 1 }).next = e at hE hall hnx
 rw [hE] at n1 ⊢
 simp only at hnx hall n1
 have hl : ∀ j, s0.next ≤ j → j < e → inSet lLetters (g.rs.getD j (-1)) = true := by
  intro j h1 h2
  by_cases hj : j = s0.next
  ·subst hj; exact l1
  ·exact hall j (by omega) h2
 have h62 : g.rs.getD e (-1) = 62 := by
  have : seeOf g (pNamed g s0.next { s0 with next := e }) = g.rs.getD e (-1) := by unfold seeOf; rw [pNamed_next]
  rw [this, show lGreater = [62] from rfl, inOne'] at n1
  simpa using n1
 have he : e < g.rs.length := by
  apply Decidable.byContradiction
  intro hn
  rw [List.getD, List.getElem?_eq_none (by omega)] at h62
  simp at h62
 have hx : runesToBytes ((g.rs.take e).drop s0.next) = bytesOf g s0.next e := by
  refine runesBytes_letters _ (fun r hr => ?_)
  obtain ⟨j, hj, rfl⟩ := List.mem_iff_getElem.1 hr
  have hj2 : s0.next + j < e := by simp at hj; omega
  have := hl (s0.next + j) (by omega) hj2
  rw [List.getD, List.getElem?_eq_getElem (by omega)] at this
  simp only [List.getElem_drop, List.getElem_take]
  exact letters_range this
 refine ⟨e, by omega, he, hl, h62, ?_⟩
 unfold pNamed
 simp only
 rw [hx]
 split <;> rfl
set_option maxRecDepth 100000 in
set_option maxHeartbeats 8000000 in
theorem bracket_named_tr {w : World} {t : TG} {g : RG} {st : RS} {fold : Int} {vn : Value} {nl : List (List UInt8)} {k : Nat} (hA : AltT g k) (hT : TrAt w t g st fold vn nl) (hlt : st.next < t.l.length) (hrem : g.rs.length - st.next ≤ k)
  (hq : (seeOf g { st with next := st.next + 1 } == 63) = true) (hr : (seeOf g { st with next := st.next + 2 } == 60) = true) (hf : (pBracket g (pAlt g k) { st with next := st.next + 1 }).1.flt.form = none) :
  Calls Tryz.prog 100 #[.pointer (some ⟨t.b, 0, none⟩)] w (NdPost w t g fold vn (pBracket g (pAlt g k) { st with next := st.next + 1 }) (rBracket g (rAlt g k) fold { st with next := st.next + 1 })) := by
 have hl := hT.len
 have hlr := hT.lenr
 have htb := hT.blt
 obtain ⟨i0, hi0, hz0, hz1, hz2⟩ := info_parts Tryz.infoStr
 have hph : pHead g { st with next := st.next + 1 } = pName g (⟨st.next + 3, st.flt, st.groups + 1, st.names⟩ : RS) := by
  unfold pHead
  rw [show inSet lQuery (seeOf g { st with next := st.next + 1 }) = (seeOf g { st with next := st.next + 1 } == 63) from inOne' 63 _, hq]
  simp only [Bool.true_eq_false, if_false]
  rw [show inSet lLess (seeOf g { st with next := st.next + 2 }) = (seeOf g { st with next := st.next + 2 } == 60) from inOne' 60 _, hr]
  rfl
 obtain ⟨RX, hRX⟩ : ∃ RX, rAlt g k fold (pName g (⟨st.next + 3, st.flt, st.groups + 1, st.names⟩ : RS)) = RX := ⟨_, rfl⟩
 have HR : Hid (rBracket g (rAlt g k) fold { st with next := st.next + 1 } = .node sGroup [] false false [RX] ((nl.length : Int) + 1) 0 0 false) := by
  show _ = _
  unfold rBracket
  rw [if_neg (by rw [inQ, hq]; simp), if_pos (by show inSet lLess (seeOf g { st with next := st.next + 2 }) = true; rw [beq_iff_eq.1 hr]; decide), hph, hRX, hT.nrel.1]
 unfold pBracket at hf ⊢
 rw [hph] at hf ⊢
 clear hph
 obtain ⟨a1, a2, a3⟩ := needSt_form hf
 rw [a3]
 clear a3 hf
 obtain ⟨e, e1, e2, e3, e4, e5⟩ := pName_parts (pAlt_form g k _ a2)
 simp only at e1 e3 e5
 obtain ⟨X, hX⟩ : ∃ X, pAlt g k (pName g (⟨st.next + 3, st.flt, st.groups + 1, st.names⟩ : RS)) = X := ⟨_, rfl⟩
 rw [hX] at a1 a2 ⊢
 have hxne : (bytesOf g (st.next + 3) e) ≠ [] := by
  intro h
  have := bytesOf_length g (st.next + 3) e (by omega)
  rw [h] at this; simp at this; omega
 have hany := hT.nrel.2.1 (bytesOf g (st.next + 3) e) hxne
 rw [e5, hany] at hX hRX
 have HS : Hid (pAlt g k (if nl.any (fun y => y == (bytesOf g (st.next + 3) e)) then { namNote (⟨e + 1, st.flt, st.groups, st.names⟩ : RS) nl (bytesOf g (st.next + 3) e) (g.ps.getD (st.next + 3) 0) with groups := st.groups + 1 } else { namNote (⟨e + 1, st.flt, st.groups, st.names⟩ : RS) nl (bytesOf g (st.next + 3) e) (g.ps.getD (st.next + 3) 0) with groups := st.groups + 1, names := ((bytesOf g (st.next + 3) e), st.groups + 1) :: st.names }) = X ∧ rAlt g k fold (if nl.any (fun y => y == (bytesOf g (st.next + 3) e)) then { namNote (⟨e + 1, st.flt, st.groups, st.names⟩ : RS) nl (bytesOf g (st.next + 3) e) (g.ps.getD (st.next + 3) 0) with groups := st.groups + 1 } else { namNote (⟨e + 1, st.flt, st.groups, st.names⟩ : RS) nl (bytesOf g (st.next + 3) e) (g.ps.getD (st.next + 3) 0) with groups := st.groups + 1, names := ((bytesOf g (st.next + 3) e), st.groups + 1) :: st.names }) = RX) := by
  show _ ∧ _
  rw [← hX, ← hRX]
  constructor
  ·congr 1
   unfold namNote
   split <;> rfl
  ·congr 1
   unfold namNote
   split <;> rfl
 clear hX e5 hany hRX
 have c1 : w.cell? ⟨t.b, 1, none⟩ = some (.int .i64 st.next) := hT.blk.cell 1
 have f1 : w.frozen? ⟨t.b, 1, none⟩ = false := hT.blk.frozen 1
 have hgr := hT.groups
 go_enter Tryz.func100, Tryz.ntmps100
 go_wp2_with fail
 have h1 : TrAt ((w.setCell ⟨t.b, 1, none⟩ (.int .i64 ((st.next : Int) + 1))).alloc (bNode sGroup)) t g { st with next := st.next + 1 } fold vn nl := (hT.step hlt).nil ((Kept.refl _ _).alloc _)
 have k1 : Kept (fun i => i = t.b ∨ vn.ownBlock = some i) w ((w.setCell ⟨t.b, 1, none⟩ (.int .i64 ((st.next : Int) + 1))).alloc (bNode sGroup)) := ((own1 (w := w) (t := t) 1 (.int .i64 ((st.next : Int) + 1))).mono (fun i hi => Or.inl hi)).alloc _
 have b1 : Blk ((w.setCell ⟨t.b, 1, none⟩ (.int .i64 ((st.next : Int) + 1))).alloc (bNode sGroup)) w.heap.size (nodeCells sGroup (.slice none 0 0) false false (.slice none 0 0) 0 0 0 false) 126 := Blk.new' _ _ (by rw [size_set])
 refine (Tr_atL h1).mono ?_
 rintro e0 w2 ⟨rfl, h2, hk2⟩
 have k2 := k1.trans (hk2.mono (fun i hi => Or.inl hi))
 have b2 := b1.kept hk2 (by omega)
 have s2 := b2.lt
 clear h1 k1 b1 hk2 c1 f1
 have hvn : ∀ i, vn.ownBlock = some i → i < w.heap.size := fun i hi => (ownsRow_block hT.names hi).2
 have hnl : nl.length ≤ 300 := by have := hT.nrel.1; have := hT.next; omega
 have c21 : w2.cell? ⟨t.b, 1, none⟩ = some (.int .i64 ((st.next : Int) + 1)) := by have := h2.blk.cell 1; simpa using this
 have f21 : w2.frozen? ⟨t.b, 1, none⟩ = false := h2.blk.frozen 1
 have h3 : TrAt (w2.setCell ⟨t.b, 1, none⟩ (.int .i64 ((st.next : Int) + 2))) t g { st with next := st.next + 2 } fold vn nl := by
  have := h2.setNext (st.next + 2) (by omega) (by simp)
  simpa using this
 have b3 := b2.setCell_other (p := ⟨t.b, 1, none⟩) (show w.heap.size ≠ t.b by omega) (.int .i64 ((st.next : Int) + 2))
 have k3 := k2.trans ((own1 (w := w2) (t := t) 1 (.int .i64 ((st.next : Int) + 2))).mono (fun i hi => Or.inl hi))
 go_wp2_with fail
 refine (Tr_atL h3).mono ?_
 rintro e0 w4 ⟨rfl, h4, hk4⟩
 have b4 := b3.kept hk4 (by omega)
 have k4 := k3.trans (hk4.mono (fun i hi => Or.inl hi))
 clear c21 f21 h3 b3 k3 hk4 h2 b2 k2
 have hbeq := beq_iff_eq.1 hr
 have n58 : (seeOf g { st with next := st.next + 2 } == 58) = false := by rw [hbeq]; rfl
 have n105 : (seeOf g { st with next := st.next + 2 } == 105) = false := by rw [hbeq]; rfl
 clear hbeq
 have c41 : w4.cell? ⟨t.b, 1, none⟩ = some (.int .i64 ((st.next : Int) + 2)) := by have := h4.blk.cell 1; simpa using this
 have f41 : w4.frozen? ⟨t.b, 1, none⟩ = false := h4.blk.frozen 1
 have hne : t.l ≠ [] := by intro h; have h0 : t.l.length = 0 := (by rw [h]; rfl); omega
 go_wp2_with fail
 obtain ⟨w5, hw5⟩ : ∃ w5, w5 = w4.setCell ⟨t.b, 1, none⟩ (.int .i64 ((st.next : Int) + 2 + 1)) := ⟨_, rfl⟩
 rw [← hw5]
 obtain ⟨m, hm⟩ : ∃ m, m = st.next + 3 := ⟨_, rfl⟩
 have h5 : TrAt w5 t g ⟨m, st.flt, st.groups, st.names⟩ fold vn nl := by
  have := h4.setNext (st.next + 3) (by omega) (by simp)
  rw [hw5, hm, show ((st.next : Int) + 2 + 1) = ((st.next + 3 : Nat) : Int) from by omega]
  exact this
 have b5 : Blk w5 w.heap.size (nodeCells sGroup (.slice none 0 0) false false (.slice none 0 0) 0 0 0 false) 126 := by rw [hw5]; exact b4.setCell_other (p := ⟨t.b, 1, none⟩) (show w.heap.size ≠ t.b by omega) (.int .i64 ((st.next : Int) + 2 + 1))
 have k5 : Kept (fun i => i = t.b ∨ vn.ownBlock = some i) w w5 := by rw [hw5]; exact k4.trans ((own1 (w := w4) (t := t) 1 (.int .i64 ((st.next : Int) + 2 + 1))).mono (fun i hi => Or.inl hi))
 rw [← hm] at e1 e3 hxne HS
 have hm1 : st.next + 3 ≤ m := by omega
 have hm2 : m ≤ st.next + 3 := by omega
 clear hw5 hm h4 b4 k4 c41 f41
 obtain ⟨hao, hbl0, hbl1⟩ := h5.gl.isSome hne
 have c50 : w5.cell? ⟨t.b, 0, none⟩ = some (.slice (some ⟨t.bl, 0, none⟩) t.l.length t.cap) := by rw [← hao]; exact h5.blk.cell 0
 have c51 : w5.cell? ⟨t.b, 1, none⟩ = some (.int .i64 m) := h5.blk.cell 1
 have cpl := (h5.gl.cells m (by omega)).2
 rw [← h5.ps m (by omega)] at cpl
 have hpr : 0 ≤ g.ps.getD m 0 ∧ g.ps.getD m 0 ≤ 300 := h5.pr m
 have hl3I : (m : Int) < (t.l.length : Int) := by omega
 obtain ⟨pl, hpl⟩ : ∃ pl, pl = g.ps.getD m 0 := ⟨_, rfl⟩
 rw [← hpl] at cpl hpr HS
 clear hpl hao
 go_region
 all_goals go_wp2_with fail
 have h6 := h5.nil (Kept.refl Nil w5).drew
 have b6 := Blk.drew b5
 have k6 := k5.drew
 clear h5 b5 k5 c50 c51 cpl
 go_loopg [5] (e - m) (fun kk v wr => ∃ i, v = .string ⟨(bytesOf g m i).toArray⟩ ∧ TrAt wr t g ⟨i, st.flt, st.groups, st.names⟩ fold vn nl ∧ Blk wr w.heap.size (nodeCells sGroup (.slice none 0 0) false false (.slice none 0 0) 0 0 0 false) 126 ∧ Kept (fun i => i = t.b ∨ vn.ownBlock = some i) w wr ∧ kk = e - i ∧ m ≤ i ∧ i ≤ e)
 case atStart => exact ⟨m, by rw [bytesOf_nil], h6, b6, k6, rfl, Nat.le_refl _, by omega⟩
 case round =>
  obtain ⟨i, rfl, hr6, hb6, hk6, rfl, him, hie⟩ := hrel
  clear h6 b6 k6
  by_cases hi : i < e
  ·have hlet := letters_range (e3 i him hi)
   have hsee : seeOf g ⟨i, st.flt, st.groups, st.names⟩ = g.rs.getD i (-1) := rfl
   rw [← hsee] at hlet
   have hb62 : (seeOf g ⟨i, st.flt, st.groups, st.names⟩ != 62) = true := bne_iff_ne.2 (by omega)
   have hbl := bytesOf_length g m i (by omega)
   have hsu := bytesOf_succ g m i him (by omega)
   rw [← hsee] at hsu
   generalize hq' : seeOf g ⟨i, st.flt, st.groups, st.names⟩ = q at *
   have HQ : Hid (seeOf g ⟨i, st.flt, st.groups, st.names⟩ = q) := hq'
   clear hsee hq'
   go_wp2_with fail
   refine (Tr_atL hr6).mono ?_
   rintro e0 w7 ⟨rfl, h7, hk7⟩
   rw [HQ.out]
   go_wp2_with fail
   refine (Tr_atL h7).mono ?_
   rintro e0 w8 ⟨rfl, h8, hk8⟩
   rw [HQ.out]
   have c81 : w8.cell? ⟨t.b, 1, none⟩ = some (.int .i64 i) := h8.blk.cell 1
   have f81 : w8.frozen? ⟨t.b, 1, none⟩ = false := h8.blk.frozen 1
   have htb8 := h8.blt
   have hconv := byte_conv w8 q hlet
   go_wp2_with fail
   go_roundg (e - (i + 1))
   case measure => omega
   case rel => exact ⟨i + 1, by rw [bytes_snoc g m i q hsu], (h8.step (show i < _ by omega)).nil ((Kept.refl _ _).alloc _), ((hb6.kept (hk7.trans hk8) (by omega)).setCell_other (p := ⟨t.b, 1, none⟩) (show w.heap.size ≠ t.b by omega) _).alloc _, (hk6.trans (((hk7.trans hk8).trans (own1 1 _)).mono (fun i hi => Or.inl hi))).alloc _, rfl, by omega, by omega⟩
  ·have hie2 : i = e := by omega
   have hr7 : TrAt wr t g ⟨e, st.flt, st.groups, st.names⟩ fold vn nl := by rw [← hie2]; exact hr6
   rw [hie2]
   clear hr6 hie2 him hie hi
   have hb62 : (seeOf g ⟨e, st.flt, st.groups, st.names⟩ != 62) = false := by rw [show seeOf g ⟨e, st.flt, st.groups, st.names⟩ = 62 from e4]; rfl
   obtain ⟨x, hx⟩ : ∃ x, x = bytesOf g m e := ⟨_, rfl⟩
   rw [← hx] at hxne HS ⊢
   clear hx
   go_wp2_with fail
   refine (Tr_atL hr7).mono ?_
   rintro e0 w7 ⟨rfl, h7, hk7⟩
   have c71 : w7.cell? ⟨t.b, 1, none⟩ = some (.int .i64 e) := h7.blk.cell 1
   have f71 : w7.frozen? ⟨t.b, 1, none⟩ = false := h7.blk.frozen 1
   have hel : e ≤ 300 := by omega
   have h8 := h7.step (show e < _ by omega)
   have b8 := (hb6.kept hk7 (by omega)).setCell_other (p := ⟨t.b, 1, none⟩) (show w.heap.size ≠ t.b by omega) (.int .i64 ((e : Int) + 1))
   have k8 := hk6.trans ((hk7.trans (own1 (w := w7) (t := t) 1 (.int .i64 ((e : Int) + 1)))).mono (fun i hi => Or.inl hi))
   go_wp2_with fail
   clear c71 f71 hr7 h7 hk7 hk6 hb6
   go_loopg [8] nl.length (fun kk v wr => ∃ j : Nat, v = .int .i64 j ∧ TrAt wr t g (namNote ⟨e + 1, st.flt, st.groups, st.names⟩ (nl.take j) x pl) fold vn nl ∧ Blk wr w.heap.size (nodeCells sGroup (.slice none 0 0) false false (.slice none 0 0) 0 0 0 false) 126 ∧ Kept (fun i => i = t.b ∨ vn.ownBlock = some i) w wr ∧ kk = nl.length - j ∧ j ≤ nl.length)
   case atStart => exact ⟨0, rfl, h8, b8, k8, rfl, by omega⟩
   case round =>
    obtain ⟨j, rfl, hr9, hb9, hk9, rfl, hjl⟩ := hrel
    clear h8 b8 k8
    obtain ⟨sj, hsj⟩ : ∃ sj, sj = namNote ⟨e + 1, st.flt, st.groups, st.names⟩ (nl.take j) x pl := ⟨_, rfl⟩
    rw [← hsj] at hr9
    by_cases hj : j < nl.length
    ·obtain ⟨bn, cap, hvb, hcells⟩ := names_cell hr9.names (by omega)
     have cj := hcells j (.string ⟨(nl[j]).toArray⟩) hj (by simp [List.getElem?_eq_getElem hj])
     have c93 : wr.cell? ⟨t.b, 3, none⟩ = some (.slice (some ⟨bn, 0, none⟩) nl.length cap) := by rw [← hvb]; exact hr9.blk.cell 3
     have c96 : wr.cell? ⟨t.b, 6, none⟩ = some (.int .i64 (orNeg sj.flt.nam)) := hr9.blk.cell 6
     have f96 : wr.frozen? ⟨t.b, 6, none⟩ = false := hr9.blk.frozen 6
     have hjI : (j : Int) < (nl.length : Int) := by omega
     clear hcells hvb
     generalize hy : nl[j] = y at *
     have htk : nl.take (j + 1) = nl.take j ++ [y] := by rw [List.take_succ_eq_append_getElem hj, hy]
     cases hc : (y == x)
     ·have HN : Hid (namNote ⟨e + 1, st.flt, st.groups, st.names⟩ (nl.take (j + 1)) x pl = sj) := by show _ = _; rw [htk, namNote_miss _ _ _ _ _ hc, hsj]
      clear hsj
      go_wp2_with fail
      go_roundg (nl.length - (j + 1))
      case measure => omega
      case rel => exact ⟨j + 1, by simp, by rw [HN.out]; exact hr9, hb9, hk9, rfl, by omega⟩
     ·have HN : Hid (namNote ⟨e + 1, st.flt, st.groups, st.names⟩ (nl.take (j + 1)) x pl = sj.note 6 pl) := by show _ = _; rw [htk, namNote_hit _ _ _ _ _ hc, hsj]
      clear hsj
      cases hnam : sj.flt.nam with
      | none =>
       rw [hnam, show orNeg none = -1 from rfl] at c96
       have h10 := hr9.setNam pl hpr.1 hnam
       go_wp2_with fail
       go_roundg (nl.length - (j + 1))
       case measure => omega
       case rel => exact ⟨j + 1, by simp, by rw [HN.out]; exact h10, hb9.setCell_other (p := ⟨t.b, 6, none⟩) (show w.heap.size ≠ t.b by omega) _, hk9.trans ((own1 6 _).mono (fun i hi => Or.inl hi)), rfl, by omega⟩
      | some pq =>
       have hpos : ¬ pq < 0 := by have := hr9.fok.2.2 pq hnam; omega
       rw [hnam, show orNeg (some pq) = pq from rfl] at c96
       have h10 : TrAt wr t g (sj.note 6 pl) fold vn nl := by rw [note6_some pl (by rw [hnam]; simp)]; exact hr9
       go_wp2_with fail
       go_roundg (nl.length - (j + 1))
       case measure => omega
       case rel => exact ⟨j + 1, by simp, by rw [HN.out]; exact h10, hb9, hk9, rfl, by omega⟩
    ·have hjn : j = nl.length := by omega
     have htk : nl.take j = nl := by rw [hjn]; exact List.take_length
     rw [htk] at hsj
     have hsq : ∃ sq : RS, sq.next = sj.next ∧ sq.flt = sj.flt ∧ NRel sq (nl ++ [x]) ∧ sq.groups ≤ sq.next ∧ pAlt g k sq = X ∧ rAlt g k fold sq = RX := by
      have hg0 : sj.groups = st.groups := by rw [hsj, namNote_groups]
      have hn0 : sj.next = e + 1 := by rw [hsj, namNote_next]
      have hm0 : sj.names = st.names := by rw [hsj]; unfold namNote; split <;> rfl
      have HS' := HS.out
      rw [← hsj] at HS'
      cases hany : nl.any (fun y => y == x)
      ·rw [hany] at HS'
       refine ⟨{ sj with groups := sj.groups + 1, names := (x, sj.groups + 1) :: sj.names }, rfl, rfl, hr9.nrel.named x hxne hany, by simp; omega, ?_⟩
       rw [← HS'.1, ← HS'.2, hg0, hm0]; exact ⟨rfl, rfl⟩
      ·rw [hany] at HS'
       have hnn : sj.flt.nam ≠ none := by rw [hsj]; unfold namNote; rw [hany]; exact note6_nam _ _
       refine ⟨{ sj with groups := sj.groups + 1 }, rfl, rfl, hr9.nrel.twice x hxne hany hnn, by simp; omega, ?_⟩
       rw [← HS'.1, ← HS'.2, hg0]; exact ⟨rfl, rfl⟩
     have hsn1 : e + 1 ≤ sj.next := by rw [hsj, namNote_next]; exact Nat.le_refl _
     have hsn2 : sj.next ≤ e + 1 := by rw [hsj, namNote_next]; exact Nat.le_refl _
     clear hsj HS
     obtain ⟨sq, q1, q2, q3, q4, q5⟩ := hsq
     have HS : Hid (pAlt g k sq = X) := q5.1
     have HSR : Hid (rAlt g k fold sq = RX) := q5.2
     have HQ1 : Hid (sq.next = sj.next) := q1
     have hsq1 : e + 1 ≤ sq.next := by omega
     have hsq2 : sq.next ≤ e + 1 := by omega
     have HQ2 : Hid (sq.flt = sj.flt) := q2
     clear q5 q1 q2
     obtain ⟨ao9, cc9, hv9⟩ := ownsRow_slice hr9.names
     have c93 : wr.cell? ⟨t.b, 3, none⟩ = some (.slice ao9 nl.length cc9) := by rw [← hv9]; exact hr9.blk.cell 3
     have hown9 := hr9.names
     rw [hv9] at hown9
     have hjI : ¬ (j : Int) < (nl.length : Int) := by omega
     clear htk hjn
     have cp0 : wr.cell? ⟨w.heap.size, 0, none⟩ = some (.string ⟨#[103, 114, 111, 117, 112]⟩) := hb9.cell 0
     have sp := hb9.lt
     go_wp2_with (at_builtin; refine wpList_append_own_at _ rfl _ _ 34 rfl (t.b + 1) 9 i0 _ 1 16 Tryz.underlying34 hi0 hz0 hz1 hz2 rfl (by decide) _ _ _ rfl (hown9.alloc _) ⟨wr.heap.size, 0, none⟩ 1 1 [.string ⟨x.toArray⟩] rfl rfl ?c1 ?c2 ?c3 ?c4 ?c5 ?_)
     first
      | (case c1 => exact cell_one_new _ _ _)
      | skip
     case c2 => first | rfl | (intro u hu; simp at hu; subst hu; rfl)
     case c3 => unfold maxLen; omega
     case c4 => omega
     case c5 => first | omega | (rw [size_alloc1]; omega) | (simp; omega)
     intro v' w3 hown' hgrow hnil hloc
     rw [← hv9] at hgrow hloc
     have kg : Kept (fun i => vn.ownBlock = some i) wr w3 := ((Kept.refl _ _).alloc _).grown hgrow (fun j hj => Or.inl hj)
     have b3 := hb9.kept kg (fun e => by have := hvn _ e; omega)
     have h4 : TrAt (w3.setCell ⟨t.b, 3, none⟩ v') t g sq fold v' (nl ++ [x]) := TrAt.pushName hr9 x ((Kept.refl _ _).alloc _) hown' hgrow HQ1.out ⟨by rw [HQ2.out], by rw [HQ2.out], by rw [HQ2.out]⟩ q3 q4
     have hva : ∀ i, v'.ownBlock = some i → vn.ownBlock = some i ∨ w.heap.size < i := by
      intro i hi
      rcases hloc with h | h
      ·exact Or.inl (h ▸ hi)
      ·rw [h] at hi; cases hi; exact Or.inr (by omega)
     obtain ⟨ao3, cc3, hv3⟩ := ownsRow_slice hown'
     rw [hv3] at h4 hva ⊢
     have k4 := (hk9.trans' kg (fun i hi he => Or.inr he)).trans ((own1 (w := w3) (t := t) 3 (.slice ao3 (nl.length + 1) cc3)).mono (fun i hi => Or.inl hi))
     have c35 : w3.cell? ⟨w.heap.size, 5, none⟩ = some (.int .i64 0) := b3.cell 5
     have f35 : w3.frozen? ⟨w.heap.size, 5, none⟩ = false := b3.frozen 5
     have htb3 : t.b < w3.heap.size := by have := b3.lt; omega
     have bt3 := hr9.blk.kept kg (fun hb => by have := (ownsRow_block hr9.names hb).1; omega)
     have f33 : w3.frozen? ⟨t.b, 3, none⟩ = false := bt3.frozen 3
     have c33 : w3.cell? ⟨t.b, 3, none⟩ = some vn := bt3.cell 3
     have c32 : w3.cell? ⟨t.b, 2, none⟩ = some (.int .i64 fold) := bt3.cell 2
     have f32 : w3.frozen? ⟨t.b, 2, none⟩ = false := bt3.frozen 2
     clear hown' hgrow hnil hloc hv3
     have k5 : Kept (fun i => i = w.heap.size) (w3.setCell ⟨t.b, 3, none⟩ (.slice ao3 (nl.length + 1) cc3)) ((w3.setCell ⟨t.b, 3, none⟩ (.slice ao3 (nl.length + 1) cc3)).setCell ⟨w.heap.size, 5, none⟩ (.int .i64 ((nl.length : Int) + 1))) := (Kept.refl (fun i => i = w.heap.size) _).setCell (p := ⟨w.heap.size, 5, none⟩) (Or.inl rfl) _
     have h5 := h4.new hT k5 (fun i hi => by omega) (fun b hb hx => (hva b hb).elim (fun h => by have := hvn b h; omega) (fun h => by omega))
     have b5 := (b3.setCell_other (p := ⟨t.b, 3, none⟩) (show w.heap.size ≠ t.b by omega) (.slice ao3 (nl.length + 1) cc3)).setCell 5 (.int .i64 ((nl.length : Int) + 1))
     have kx := k4.trans' k5 (fun i hi he => by omega)
     obtain ⟨wx, hwx⟩ : ∃ wx, wx = (w3.setCell ⟨t.b, 3, none⟩ (.slice ao3 (nl.length + 1) cc3)).setCell ⟨w.heap.size, 5, none⟩ (.int .i64 ((nl.length : Int) + 1)) := ⟨_, rfl⟩
     have hx := h5
     have bx := b5
     rw [← hwx] at hx bx kx
     clear h5 b5 h4 k4 k5
     have htx : t.b < wx.heap.size := hx.blt
     have hxn := hx.next
     have hf0 := hT.fold0
     have cx2 : wx.cell? ⟨t.b, 2, none⟩ = some (.int .i64 fold) := hx.blk.cell 2
     have fx2 : wx.frozen? ⟨t.b, 2, none⟩ = false := hx.blk.frozen 2
     have hf6 : 0 ≤ fold ∧ fold ≤ ((sq.next : Nat) : Int) := by omega
     have h6 := hx.setFold fold hf6
     have b6 := bx.setCell_other (p := ⟨t.b, 2, none⟩) (show w.heap.size ≠ t.b by omega) (.int .i64 fold)
     have k6 := kx.trans ((own1 (w := wx) (t := t) 2 (.int .i64 fold)).mono (fun i hi => Or.inl hi))
     go_wp2_with fail
     rw [← hwx]
     clear hwx
     refine (hA _ t _ _ _ _ h6 (by show g.rs.length - sq.next < k; omega) (by rw [HS.out]; exact a2)).mono ?_
     rw [HS.out, HSR.out]
     rintro e w7 ⟨b7, vn7, nl7, rfl, h7, q2, q3, q4⟩
     have hv7 : ∀ i, vn7.ownBlock = some i → i < w7.heap.size := fun i hi => (ownsRow_block h7.names hi).2
     have b7' := b6.kept q3 (by rintro (e | e); · omega
                                · rcases hva _ e with h | h
                                  · have := hvn _ h; omega
                                  · omega)
     have s7 := q3.size
     rw [size_set] at s7
     have sx := bx.lt
     have hX := h7.next
     have hxl := lt_of_see (g := g) (st := X.1) (by intro e; rw [e, inSet_end] at a1; exact absurd a1 (by simp))
     have hf7 := h7.fold0
     have c74 : w7.cell? ⟨w.heap.size, 4, none⟩ = some (.slice none 0 0) := b7'.cell 4
     have f74 : w7.frozen? ⟨w.heap.size, 4, none⟩ = false := b7'.frozen 4
     have c72 : w7.cell? ⟨t.b, 2, none⟩ = some (.int .i64 fold) := h7.blk.cell 2
     have f72 : w7.frozen? ⟨t.b, 2, none⟩ = false := h7.blk.frozen 2
     have c71 : w7.cell? ⟨t.b, 1, none⟩ = some (.int .i64 X.1.next) := h7.blk.cell 1
     have f71 : w7.frozen? ⟨t.b, 1, none⟩ = false := h7.blk.frozen 1
     have htb7 := h7.blt
     have hnb7 := b7'.lt
     have hX300 : X.1.next ≤ 300 := by omega
     have k8 : Kept (fun i => i = w.heap.size) w7 (w7.setCell ⟨w.heap.size, 4, none⟩ (.slice (some ⟨w7.heap.size, 0, none⟩) 1 1)) := (Kept.refl (fun i => i = w.heap.size) w7).setCell (p := ⟨w.heap.size, 4, none⟩) (Or.inl rfl) _
     have h8 := h7.new hT k8 (fun i hi => by omega) (fun b hb hx => by
      rcases q4 b hb with h | h
      ·rcases hva b h with h | h
       ·have := hvn b h; omega
       ·omega
      ·rw [size_set] at h; omega)
     have h9 := ((h8.setFold fold (by omega)).step (by omega)).nil ((Kept.refl Nil _).alloc (.cells #[.pointer (some ⟨b7, 0, none⟩)] 33))
     have k9 : Kept (fun i => i = t.b ∨ i = w.heap.size) w7 _ := (((k8.mono (fun i hi => Or.inr hi)).trans ((own1 (t := t) 2 (.int .i64 fold)).mono (fun i hi => Or.inl hi))).trans ((own1 (t := t) 1 (.int .i64 ((X.1.next : Int) + 1))).mono (fun i hi => Or.inl hi))).alloc (.cells #[.pointer (some ⟨b7, 0, none⟩)] 33)
     have b9 := (((b7'.setCell 4 (.slice (some ⟨w7.heap.size, 0, none⟩) 1 1)).setCell_other (p := ⟨t.b, 2, none⟩) (show w.heap.size ≠ t.b by omega) (.int .i64 fold)).setCell_other (p := ⟨t.b, 1, none⟩) (show w.heap.size ≠ t.b by omega) (.int .i64 ((X.1.next : Int) + 1))).alloc (.cells #[.pointer (some ⟨b7, 0, none⟩)] 33)
     have bk9 : Blk ((((w7.setCell ⟨w.heap.size, 4, none⟩ (.slice (some ⟨w7.heap.size, 0, none⟩) 1 1)).setCell ⟨t.b, 2, none⟩ (.int .i64 fold)).setCell ⟨t.b, 1, none⟩ (.int .i64 ((X.1.next : Int) + 1))).alloc (.cells #[.pointer (some ⟨b7, 0, none⟩)] 33)) w7.heap.size #[.pointer (some ⟨b7, 0, none⟩)] 33 := Blk.new' _ _ (by simp only [size_set])
     go_wp2_with fail
     go_ret
     rw [HR.out]
     exact bracket_node (wa := wx.setCell ⟨t.b, 2, none⟩ (.int .i64 fold)) hT k6 rfl (by rw [size_set]; exact sx) hva q2 q3 q4 hv7 h9 k9 (bk9.cell 0) (Nat.le_refl _) b9 op_group
end Go.Proofs.YtfollffpibmgcaaGreatDoor
