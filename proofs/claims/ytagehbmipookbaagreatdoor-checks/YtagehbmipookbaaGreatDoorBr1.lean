/- The reference's tree: a bracket without a name. -/
import Derived.Test.YtagehbmipookbaaGreatDoorBr0
namespace Go.Proofs.YtagehbmipookbaaGreatDoor
open Go.RowKit Go.Maps
set_option linter.unusedVariables false
set_option maxRecDepth 100000

theorem op1 {op : ByteArray} (h1 : (op.data.toList == [115, 101, 113]) = false) (h2 : (op.data.toList == [97, 108, 116]) = false) (h3 : (op.data.toList == [116, 105, 109, 101, 115]) = false) : OpOf op 1 :=
  Or.inr (Or.inr (Or.inr ⟨Or.inr rfl, by rw [Lib.toList_data]; exact h1, by rw [Lib.toList_data]; exact h2, by rw [Lib.toList_data]; exact h3⟩))
theorem op_group : OpOf sGroup 1 := op1 (by decide) (by decide) (by decide)
theorem op_bare : OpOf sBare 1 := op1 (by decide) (by decide) (by decide)
theorem Tryz.infoStr : (Tryz.prog.info? 9).map (fun i => (i.zero, i.size, i.bytes)) = some (some (.string ⟨#[]⟩), 1, 16) := by kernel_rfl

abbrev bNode (op : ByteArray) : Obj := .cells (nodeCells op (.slice none 0 0) false false (.slice none 0 0) 0 0 0 false) 77

set_option maxRecDepth 100000 in
set_option maxHeartbeats 4000000 in
/-- a group without a name -/
theorem bracket_group {w : World} {t : TG} {g : RG} {st : RS} {fold : Int} {vn : Value} {nl : List (List UInt8)} {k : Nat} (hA : AltT g k) (hT : TrAt w t g st fold vn nl) (hlt : st.next < t.l.length) (hrem : g.rs.length - st.next ≤ k)
    (hq : (seeOf g { st with next := st.next + 1 } == 63) = false) (hf : (pBracket g (pAlt g k) { st with next := st.next + 1 }).1.flt.form = none) :
    Calls Tryz.prog 47 #[.pointer (some ⟨t.b, 0, none⟩)] w (NdPost w t g fold vn (pBracket g (pAlt g k) { st with next := st.next + 1 }) (rBracket g (rAlt g k) fold { st with next := st.next + 1 })) := by
  have hl := hT.len
  have hlr := hT.lenr
  have htb := hT.blt
  obtain ⟨i0, hi0, hz0, hz1, hz2⟩ := info_parts Tryz.infoStr
  have hph : pHead g { st with next := st.next + 1 } = (⟨st.next + 1, st.flt, st.groups + 1, st.names⟩ : RS) := by
    unfold pHead
    rw [show inSet lQuery (seeOf g { st with next := st.next + 1 }) = (seeOf g { st with next := st.next + 1 } == 63) from inOne' 63 _, hq]
    rfl
  have HR : Hid (rBracket g (rAlt g k) fold { st with next := st.next + 1 } = .node sGroup [] false false [rAlt g k fold (⟨st.next + 1, st.flt, st.groups + 1, st.names⟩ : RS)] ((nl.length : Int) + 1) 0 0 false) := by
    show _ = _
    unfold rBracket
    rw [if_pos (by rw [inQ]; exact hq), hph, hT.nrel.1]
  unfold pBracket at hf ⊢
  rw [hph] at hf ⊢
  clear hph
  obtain ⟨a1, a2, a3⟩ := needSt_form hf
  rw [a3]
  clear a3 hf
  obtain ⟨X, hX⟩ : ∃ X, pAlt g k (⟨st.next + 1, st.flt, st.groups + 1, st.names⟩ : RS) = X := ⟨_, rfl⟩
  rw [hX] at a1 a2 ⊢
  have HS : Hid (pAlt g k (⟨st.next + 1, st.flt, st.groups + 1, st.names⟩ : RS) = X) := hX
  clear hX
  have c1 : w.cell? ⟨t.b, 1, none⟩ = some (.int .i64 st.next) := hT.blk.cell 1
  have f1 : w.frozen? ⟨t.b, 1, none⟩ = false := hT.blk.frozen 1
  have hgr := hT.groups
  go_enter Tryz.func47, Tryz.ntmps47
  go_wp2_with fail
  have h1 : TrAt ((w.setCell ⟨t.b, 1, none⟩ (.int .i64 ((st.next : Int) + 1))).alloc (bNode sGroup)) t g { st with next := st.next + 1 } fold vn nl := (hT.step hlt).nil ((Kept.refl _ _).alloc _)
  have k1 : Kept (fun i => i = t.b ∨ vn.ownBlock = some i) w ((w.setCell ⟨t.b, 1, none⟩ (.int .i64 ((st.next : Int) + 1))).alloc (bNode sGroup)) := ((own1 (w := w) (t := t) 1 (.int .i64 ((st.next : Int) + 1))).mono (fun i hi => Or.inl hi)).alloc _
  have b1 : Blk ((w.setCell ⟨t.b, 1, none⟩ (.int .i64 ((st.next : Int) + 1))).alloc (bNode sGroup)) w.heap.size (nodeCells sGroup (.slice none 0 0) false false (.slice none 0 0) 0 0 0 false) 77 := Blk.new' _ _ (by rw [size_set])
  refine (Tr_atL h1).mono ?_
  rintro e w2 ⟨rfl, h2, hk2⟩
  have k2 := k1.trans (hk2.mono (fun i hi => Or.inl hi))
  have b2 := b1.kept hk2 (by omega)
  have s2 := b2.lt
  clear h1 k1 b1 hk2 c1 f1
  have hvn : ∀ i, vn.ownBlock = some i → i < w.heap.size := fun i hi => (ownsRow_block hT.names hi).2
  have hnl : nl.length ≤ 300 := by have := hT.nrel.1; have := hT.next; omega
  have cp0 : w2.cell? ⟨w.heap.size, 0, none⟩ = some (.string ⟨#[103, 114, 111, 117, 112]⟩) := b2.cell 0
  have cp3 : w2.cell? ⟨t.b, 3, none⟩ = some vn := h2.blk.cell 3
  have sp := b2.lt
  go_wp2_with (at_builtin; refine wpList_append_own_at _ rfl _ _ 26 rfl (t.b + 1) 9 i0 _ 1 16 Tryz.underlying26 hi0 hz0 hz1 hz2 rfl (by decide) _ _ _ rfl (h2.names.alloc _) ⟨w2.heap.size, 0, none⟩ 1 1 [.string ⟨#[]⟩] rfl rfl ?c1 ?c2 ?c3 ?c4 ?c5 ?_)
  first
    | (case c1 => exact cell_one_new _ _ _)
    | skip
  case c2 => first | rfl | (intro u hu; simp at hu; subst hu; rfl)
  case c3 => unfold maxLen; omega
  case c4 => omega
  case c5 => first | omega | (rw [size_alloc1]; omega) | (simp; omega)
  intro v' w3 hown' hgrow hnil hloc
  have kg : Kept (fun i => vn.ownBlock = some i) w2 w3 := ((Kept.refl _ _).alloc _).grown hgrow (fun j hj => Or.inl hj)
  have b3 := b2.kept kg (fun e => by have := hvn _ e; omega)
  have h4 : TrAt (w3.setCell ⟨t.b, 3, none⟩ v') t g (⟨st.next + 1, st.flt, st.groups + 1, st.names⟩ : RS) fold v' (nl ++ [[]]) := TrAt.pushName h2 [] ((Kept.refl _ _).alloc _) hown' hgrow rfl ⟨rfl, rfl, rfl⟩ hT.nrel.plain (by simp; omega)
  have hva : ∀ i, v'.ownBlock = some i → vn.ownBlock = some i ∨ w.heap.size < i := by
    intro i hi
    rcases hloc with h | h
    · exact Or.inl (h ▸ hi)
    · rw [h] at hi; cases hi; exact Or.inr (by omega)
  obtain ⟨ao3, cc3, hv3⟩ := ownsRow_slice hown'
  rw [hv3] at h4 hva ⊢
  have k4 := (k2.trans' kg (fun i hi he => Or.inr he)).trans ((own1 (w := w3) (t := t) 3 (.slice ao3 (nl.length + 1) cc3)).mono (fun i hi => Or.inl hi))
  have c35 : w3.cell? ⟨w.heap.size, 5, none⟩ = some (.int .i64 0) := b3.cell 5
  have f35 : w3.frozen? ⟨w.heap.size, 5, none⟩ = false := b3.frozen 5
  have htb3 : t.b < w3.heap.size := by have := b3.lt; omega
  have bt3 := h2.blk.kept kg (fun hb => by have := (ownsRow_block h2.names hb).1; omega)
  have f33 : w3.frozen? ⟨t.b, 3, none⟩ = false := bt3.frozen 3
  have c33 : w3.cell? ⟨t.b, 3, none⟩ = some vn := bt3.cell 3
  have c32 : w3.cell? ⟨t.b, 2, none⟩ = some (.int .i64 fold) := bt3.cell 2
  have f32 : w3.frozen? ⟨t.b, 2, none⟩ = false := bt3.frozen 2
  clear hown' hgrow hnil hloc hv3
  have k5 : Kept (fun i => i = w.heap.size) (w3.setCell ⟨t.b, 3, none⟩ (.slice ao3 (nl.length + 1) cc3)) ((w3.setCell ⟨t.b, 3, none⟩ (.slice ao3 (nl.length + 1) cc3)).setCell ⟨w.heap.size, 5, none⟩ (.int .i64 ((nl.length : Int) + 1))) := (Kept.refl (fun i => i = w.heap.size) _).setCell (p := ⟨w.heap.size, 5, none⟩) (Or.inl rfl) _
  have h5 := h4.new hT k5 (fun i hi => by omega) (fun b hb hx => (hva b hb).elim (fun h => by have := hvn b h; omega) (fun h => by omega))
  have b5 := (b3.setCell_other (p := ⟨t.b, 3, none⟩) (show w.heap.size ≠ t.b by omega) (.slice ao3 (nl.length + 1) cc3)).setCell 5 (.int .i64 ((nl.length : Int) + 1))
  have kx := k4.trans' k5 (fun i hi he => by omega)
  obtain ⟨wx, hwx⟩ : ∃ wx, wx = (w3.setCell ⟨t.b, 3, none⟩ (.slice ao3 (nl.length + 1) cc3)).setCell ⟨w.heap.size, 5, none⟩ (.int .i64 ((nl.length : Int) + 1)) := ⟨_, rfl⟩
  have hx := h5
  have bx := b5
  rw [← hwx] at hx bx kx
  clear h5 b5 h4 k4 k5
  have htx : t.b < wx.heap.size := hx.blt
  have hxn := hx.next
  have hf0 := hT.fold0
  have cx2 : wx.cell? ⟨t.b, 2, none⟩ = some (.int .i64 fold) := hx.blk.cell 2
  have fx2 : wx.frozen? ⟨t.b, 2, none⟩ = false := hx.blk.frozen 2
  have hf6 : 0 ≤ fold ∧ fold ≤ (((st.next + 1) : Nat) : Int) := by omega
  have h6 := hx.setFold fold hf6
  have b6 := bx.setCell_other (p := ⟨t.b, 2, none⟩) (show w.heap.size ≠ t.b by omega) (.int .i64 fold)
  have k6 := kx.trans ((own1 (w := wx) (t := t) 2 (.int .i64 fold)).mono (fun i hi => Or.inl hi))
  go_wp2_with fail
  rw [← hwx]
  clear hwx
  refine (hA _ t _ _ _ _ h6 (by show g.rs.length - (st.next + 1) < k; omega) (by rw [HS.out]; exact a2)).mono ?_
  rw [HS.out]
  rintro e w7 ⟨b7, vn7, nl7, rfl, h7, q2, q3, q4⟩
  have hv7 : ∀ i, vn7.ownBlock = some i → i < w7.heap.size := fun i hi => (ownsRow_block h7.names hi).2
  have b7' := b6.kept q3 (by rintro (e | e); · omega
                             · rcases hva _ e with h | h
                               · have := hvn _ h; omega
                               · omega)
  have s7 := q3.size
  rw [size_set] at s7
  have sx := bx.lt
  have hX := h7.next
  have hxl := lt_of_see (g := g) (st := X.1) (by intro e; rw [e, inSet_end] at a1; exact absurd a1 (by simp))
  have hf7 := h7.fold0
  have c74 : w7.cell? ⟨w.heap.size, 4, none⟩ = some (.slice none 0 0) := b7'.cell 4
  have f74 : w7.frozen? ⟨w.heap.size, 4, none⟩ = false := b7'.frozen 4
  have c72 : w7.cell? ⟨t.b, 2, none⟩ = some (.int .i64 fold) := h7.blk.cell 2
  have f72 : w7.frozen? ⟨t.b, 2, none⟩ = false := h7.blk.frozen 2
  have c71 : w7.cell? ⟨t.b, 1, none⟩ = some (.int .i64 X.1.next) := h7.blk.cell 1
  have f71 : w7.frozen? ⟨t.b, 1, none⟩ = false := h7.blk.frozen 1
  have htb7 := h7.blt
  have hnb7 := b7'.lt
  have hX300 : X.1.next ≤ 300 := by omega
  have k8 : Kept (fun i => i = w.heap.size) w7 (w7.setCell ⟨w.heap.size, 4, none⟩ (.slice (some ⟨w7.heap.size, 0, none⟩) 1 1)) := (Kept.refl (fun i => i = w.heap.size) w7).setCell (p := ⟨w.heap.size, 4, none⟩) (Or.inl rfl) _
  have h8 := h7.new hT k8 (fun i hi => by omega) (fun b hb hx => by
    rcases q4 b hb with h | h
    · rcases hva b h with h | h
      · have := hvn b h; omega
      · omega
    · rw [size_set] at h; omega)
  have h9 := ((h8.setFold fold (by omega)).step (by omega)).nil ((Kept.refl Nil _).alloc (.cells #[.pointer (some ⟨b7, 0, none⟩)] 25))
  have k9 : Kept (fun i => i = t.b ∨ i = w.heap.size) w7 _ := (((k8.mono (fun i hi => Or.inr hi)).trans ((own1 (t := t) 2 (.int .i64 fold)).mono (fun i hi => Or.inl hi))).trans ((own1 (t := t) 1 (.int .i64 ((X.1.next : Int) + 1))).mono (fun i hi => Or.inl hi))).alloc (.cells #[.pointer (some ⟨b7, 0, none⟩)] 25)
  have b9 := (((b7'.setCell 4 (.slice (some ⟨w7.heap.size, 0, none⟩) 1 1)).setCell_other (p := ⟨t.b, 2, none⟩) (show w.heap.size ≠ t.b by omega) (.int .i64 fold)).setCell_other (p := ⟨t.b, 1, none⟩) (show w.heap.size ≠ t.b by omega) (.int .i64 ((X.1.next : Int) + 1))).alloc (.cells #[.pointer (some ⟨b7, 0, none⟩)] 25)
  have bk9 : Blk ((((w7.setCell ⟨w.heap.size, 4, none⟩ (.slice (some ⟨w7.heap.size, 0, none⟩) 1 1)).setCell ⟨t.b, 2, none⟩ (.int .i64 fold)).setCell ⟨t.b, 1, none⟩ (.int .i64 ((X.1.next : Int) + 1))).alloc (.cells #[.pointer (some ⟨b7, 0, none⟩)] 25)) w7.heap.size #[.pointer (some ⟨b7, 0, none⟩)] 25 := Blk.new' _ _ (by simp only [size_set])
  go_wp2_with fail
  go_ret
  rw [HR.out]
  exact bracket_node (wa := wx.setCell ⟨t.b, 2, none⟩ (.int .i64 fold)) hT k6 rfl (by rw [size_set]; exact sx) hva q2 q3 q4 hv7 h9 k9 (bk9.cell 0) (Nat.le_refl _) b9 op_group
end Go.Proofs.YtagehbmipookbaaGreatDoor
