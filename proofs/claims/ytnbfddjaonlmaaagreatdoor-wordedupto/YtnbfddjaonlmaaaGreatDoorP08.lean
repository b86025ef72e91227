/- The reader of the program: anyOf, item, class, escape. The reader of the program: item, class, escape. The reader of the program: escape, atom. -/
import Derived.Test.YtnbfddjaonlmaaaGreatDoorP07
namespace Go.Proofs.YtnbfddjaonlmaaaGreatDoor
open Go.RowKit Go.Maps
set_option linter.unusedVariables false
set_option maxRecDepth 100000

theorem RdAt.setGroups {w : World} {g : RG} {fo : Bool} {st : RS} (h : RdAt w g fo st) (m : Nat) (hm : m ≤ st.next) (hg : st.groups ≤ m) : RdAt (w.setCell ⟨g.b, 5, none⟩ (.int .i64 m)) g fo { st with groups := m } where
  blk := h.blk.setCell 5 _
  isSome := h.isSome
  runes i hi := by
    rw [World.cell?_of_block (w := w) (Below.heap_setCell w _ _ g.br (fun e => h.apart.1 e.symm))]; exact h.runes i hi
  places i hi := by
    rw [World.cell?_of_block (w := w) (Below.heap_setCell w _ _ g.bp (fun e => h.apart.2.1 e.symm))]; exact h.places i hi
  brlt := by have := h.brlt; simpa [World.setCell] using this
  bplt := by have := h.bplt; simpa [World.setCell] using this
  prange := h.prange
  rrange := h.rrange
  fm := by obtain ⟨D, hD, hF⟩ := h.fm; exact ⟨D, hD.setCell (a := ⟨g.b, 5, none⟩) (fun e => h.apart.2.2.1 e.symm) _, hF⟩
  nm := by obtain ⟨D, hD, hF⟩ := h.nm; exact ⟨D, hD.setCell (a := ⟨g.b, 5, none⟩) (fun e => h.apart.2.2.2.1 e.symm) _, hF⟩
  len := h.len
  capr := h.capr
  next := h.next
  groups := hm
  names := by have := h.names; simp; omega
  apart := h.apart

theorem RdAt.use_lt {w : World} {g : RG} {fo : Bool} {st : RS} (h : RdAt w g fo st) {i : Nat} (hi : g.use i) : i < w.heap.size := by
  obtain ⟨D, hD, _⟩ := h.fm
  obtain ⟨D', hD', _⟩ := h.nm
  rcases hi with rfl | rfl | rfl | rfl | rfl
  · exact h.blt
  · exact hD.lt
  · exact hD'.lt
  · exact h.brlt
  · exact h.bplt
theorem RdAt.own_lt {w : World} {g : RG} {fo : Bool} {st : RS} (h : RdAt w g fo st) {i : Nat} (hi : g.own i) : i < w.heap.size := h.use_lt (by rcases hi with h | h | h <;> simp [RG.use, h])
/-- a new block, and what is written into blocks that are new since a world in which the reader lay -/
theorem RdAt.new {w0 w w' : World} {g : RG} {fo fo0 : Bool} {st st0 : RS} (h : RdAt w g fo st) (h0 : RdAt w0 g fo0 st0) {S : Nat → Prop} (k : Kept S w w') (hs : ∀ i, S i → w0.heap.size ≤ i) : RdAt w' g fo st :=
  h.kept k (fun i hi hx => by have := h0.use_lt hi; have := hs i hx; omega)

theorem size_alloc1 (w : World) (o : Obj) : (w.alloc o).heap.size = w.heap.size + 1 := by simp

/-- a node is written into the block of the call's result -/
theorem node_close {w wz : World} {g : RG} {fo fo' : Bool} {st st' : RS} {q : Nv} {T : PT} {C : CT} {lo hi : Nat} (h : RdAt w g fo st) (h2 : RdAt wz g fo' st') (hp : PTAt wz lo hi q T C) (hlo : w.heap.size < lo) (hhi : hi ≤ wz.heap.size) (k1 : Kept g.own w wz) :
    RdAt (putNv wz w.heap.size q) g fo' st' ∧ PTAt (putNv wz w.heap.size q) w.heap.size (putNv wz w.heap.size q).heap.size q T C ∧ Kept g.own w (putNv wz w.heap.size q) := by
  have sz := putNv_size wz w.heap.size q
  have kq := putNv_kept wz w.heap.size q
  refine ⟨h2.new h kq (fun i hi => by omega), ?_, k1.trans' kq (fun i hi he => by omega)⟩
  exact (hp.kept kq (fun i h1 _ he => by omega) hhi).widen (by omega) (by omega)

theorem own_read {w : World} {base : Nat} {v : Value} {l : Spans} (h : w.ownsRow base 149 2 v l.length (flat32 l)) : ∃ ao b cap, v = .slice ao l.length cap ∧ (l ≠ [] → ao = some ⟨b, 0, none⟩) ∧ Cells32 w b l ∧ (l ≠ [] → b < w.heap.size) := by
  by_cases hne : l = []
  · subst hne
    obtain ⟨ao, cap, rfl⟩ := ownsRow_slice32 h
    exact ⟨ao, 0, cap, rfl, fun h => absurd rfl h, Cells32.nil _ _, fun h => absurd rfl h⟩
  · obtain ⟨g, cap, rfl, _, h2, h3, _⟩ := cells_of_own h hne
    exact ⟨_, g, cap, rfl, fun _ => rfl, h3, fun _ => h2⟩
theorem bothOf_ne {l : Spans} (h : l ≠ []) : bothOf l ≠ [] := by
  have : ∀ (l acc : Spans), acc.length ≤ (l.foldl bothStep acc).length := by
    intro l
    induction l with
    | nil => intro acc; exact Nat.le_refl _
    | cons s l ih =>
      intro acc
      have h1 := ih (bothStep acc s)
      have h2 := (smallStep_len acc s).1
      have h3 := (greatStep_len (smallStep acc s) s).1
      have h4 : acc.length ≤ (bothStep acc s).length := by unfold bothStep; omega
      rw [List.foldl_cons]; omega
  have h1 := this l l
  intro e
  have h2 : (l.foldl bothStep l).length = 0 := by rw [show l.foldl bothStep l = [] from e]; rfl
  have : l.length = 0 := by omega
  exact h (List.length_eq_zero_iff.1 this)

set_option maxHeartbeats 1000000 in
theorem anyOf_FF {w : World} {g : RG} {st : RS} (h : RdAt w g false st) {b cap : Nat} {l : Spans} (hc : Cells32 w b l) (hr : RuneSp l) (hl : l.length ≤ 1900) (hne : l ≠ []) (hb : b < w.heap.size) :
    Calls Tryz.prog 86 #[.pointer (some ⟨g.b, 0, none⟩), .slice (some ⟨b, 0, none⟩) l.length cap, .bool false] w fun e w' => ∃ q, e = .returned (Nv.val q) ∧ RdAt w' g false st ∧ PTAt w' w.heap.size w'.heap.size q single (cLeaf l false false) ∧ Kept g.own w w' := by
  have ha := h.nil ((Kept.refl Nil w).alloc (.cells zeroNv.cells 56))
  have c4 : (w.alloc (.cells zeroNv.cells 56)).cell? ⟨g.b, 4, none⟩ = some (.bool false) := ha.blk.cell 4
  have b0 := Blk.new w zeroNv.cells 56
  have ka : Kept Nil w (w.alloc (.cells zeroNv.cells 56)) := (Kept.refl Nil w).alloc _
  have hc0 := hc.kept ka hb (fun hx => hx)
  have s0 : (w.alloc (.cells zeroNv.cells 56)).heap.size = w.heap.size + 1 := size_alloc1 _ _
  simp only [Nv.cells, zeroNv] at c4
  go_enter Tryz.func86, Tryz.ntmps86
  go_wp2_with fail
  refine (newSet_rd (w := w.alloc (.cells zeroNv.cells 56)) (cap := cap) hc0 hr (by omega) hne (by omega)).mono ?_
  rintro e w2 ⟨l', v2, hp, hs, rfl, hv2, hk2⟩
  have hr' : RuneSp l' := fun s h => (hr) s (hp.mem_iff.1 h)
  have hml := mergeAll_rune_len l' hr'
  have hk02 := ka.trans hk2
  have b2 := b0.kept hk2 (fun hx => hx)
  have hll : l'.length ≤ 1900 := by have := hp.length_eq; omega
  have hs1 : w.heap.size + 1 ≤ (w.alloc (.cells zeroNv.cells 56)).heap.size := by omega
  obtain ⟨sa, sc, hv3e, hpt⟩ := PTAt.leaf (sp := l) (fo := false) (nt := false) (own32_base hv2 hs1) ⟨l', by simpa using hp, hs, rfl⟩ hr hl
  rw [hv3e]
  obtain ⟨e0, e1, e2, e3, e4, e5, e6, e7⟩ := b2.eight
  obtain ⟨g0, g1, g2, g3, g4, g5, g6, g7⟩ := b2.thaw
  simp only [zeroNv] at e0 e1 e2 e3 e4 e5 e6 e7
  have hlt9 : w.heap.size < w2.heap.size := b2.lt
  go_wp2_with fail
  have fin := node_close h (h.nil hk02) hpt (by omega) (Nat.le_refl _) (hk02.mono (fun _ hx => hx.elim))
  have bfin := putNv_blk b2 (setNv sa (mergeAll l').length sc)
  simp only [putNv, setNv] at fin bfin
  refine node_ret (i := 6) (b := w.heap.size) (q := setNv sa (mergeAll l').length sc) Tryz.results86 ?_ ?_ ?_ ?_
  · rfl
  · rfl
  · exact bfin
  · exact ⟨_, rfl, fin⟩

set_option maxHeartbeats 1000000 in
theorem anyOf_FT {w : World} {g : RG} {st : RS} (h : RdAt w g false st) {b cap : Nat} {l : Spans} (hc : Cells32 w b l) (hr : RuneSp l) (hl : l.length ≤ 1900) (hne : l ≠ []) (hb : b < w.heap.size) :
    Calls Tryz.prog 86 #[.pointer (some ⟨g.b, 0, none⟩), .slice (some ⟨b, 0, none⟩) l.length cap, .bool true] w fun e w' => ∃ q, e = .returned (Nv.val q) ∧ RdAt w' g false st ∧ PTAt w' w.heap.size w'.heap.size q single (cLeaf l false true) ∧ Kept g.own w w' := by
  have ha := h.nil ((Kept.refl Nil w).alloc (.cells zeroNv.cells 56))
  have c4 : (w.alloc (.cells zeroNv.cells 56)).cell? ⟨g.b, 4, none⟩ = some (.bool false) := ha.blk.cell 4
  have b0 := Blk.new w zeroNv.cells 56
  have ka : Kept Nil w (w.alloc (.cells zeroNv.cells 56)) := (Kept.refl Nil w).alloc _
  have hc0 := hc.kept ka hb (fun hx => hx)
  have s0 : (w.alloc (.cells zeroNv.cells 56)).heap.size = w.heap.size + 1 := size_alloc1 _ _
  simp only [Nv.cells, zeroNv] at c4
  go_enter Tryz.func86, Tryz.ntmps86
  go_wp2_with fail
  refine (newSet_rd (w := w.alloc (.cells zeroNv.cells 56)) (cap := cap) hc0 hr (by omega) hne (by omega)).mono ?_
  rintro e w2 ⟨l', v2, hp, hs, rfl, hv2, hk2⟩
  have hr' : RuneSp l' := fun s h => (hr) s (hp.mem_iff.1 h)
  have hml := mergeAll_rune_len l' hr'
  have hk02 := ka.trans hk2
  have b2 := b0.kept hk2 (fun hx => hx)
  have hll : l'.length ≤ 1900 := by have := hp.length_eq; omega
  have hs1 : w.heap.size + 1 ≤ (w.alloc (.cells zeroNv.cells 56)).heap.size := by omega
  obtain ⟨ao2, b2', cap2, hv2e, x1, x2, x3⟩ := own_read hv2
  rw [hv2e]
  go_wp2_with fail
  refine (others_rd (cap := cap2) x1 x2 hml.1 (by omega) x3).mono ?_
  rintro e w3 ⟨v3, rfl, hv3, hk3⟩
  have hk03 := hk02.trans hk3
  have b3 := b2.kept hk3 (fun hx => hx)
  have hs2 : w.heap.size + 1 ≤ w2.heap.size := by have := hk2.size; omega
  obtain ⟨sa, sc, hv3e, hpt⟩ := PTAt.leaf (sp := l) (fo := false) (nt := true) (own32_base hv3 hs2) ⟨l', by simpa using hp, hs, rfl⟩ hr hl
  rw [hv3e]
  obtain ⟨e0, e1, e2, e3, e4, e5, e6, e7⟩ := b3.eight
  obtain ⟨g0, g1, g2, g3, g4, g5, g6, g7⟩ := b3.thaw
  simp only [zeroNv] at e0 e1 e2 e3 e4 e5 e6 e7
  have hlt9 : w.heap.size < w3.heap.size := b3.lt
  go_wp2_with fail
  have fin := node_close h (h.nil hk03) hpt (by omega) (Nat.le_refl _) (hk03.mono (fun _ hx => hx.elim))
  have bfin := putNv_blk b3 (setNv sa (othersOf (mergeAll l')).length sc)
  simp only [putNv, setNv] at fin bfin
  refine node_ret (i := 6) (b := w.heap.size) (q := setNv sa (othersOf (mergeAll l')).length sc) Tryz.results86 ?_ ?_ ?_ ?_
  · rfl
  · rfl
  · exact bfin
  · exact ⟨_, rfl, fin⟩

set_option maxHeartbeats 1000000 in
theorem anyOf_TF {w : World} {g : RG} {st : RS} (h : RdAt w g true st) {b cap : Nat} {l : Spans} (hc : Cells32 w b l) (hr : RuneSp l) (hl : l.length ≤ 1900) (hne : l ≠ []) (hb : b < w.heap.size) :
    Calls Tryz.prog 86 #[.pointer (some ⟨g.b, 0, none⟩), .slice (some ⟨b, 0, none⟩) l.length cap, .bool false] w fun e w' => ∃ q, e = .returned (Nv.val q) ∧ RdAt w' g true st ∧ PTAt w' w.heap.size w'.heap.size q single (cLeaf l true false) ∧ Kept g.own w w' := by
  have ha := h.nil ((Kept.refl Nil w).alloc (.cells zeroNv.cells 56))
  have c4 : (w.alloc (.cells zeroNv.cells 56)).cell? ⟨g.b, 4, none⟩ = some (.bool true) := ha.blk.cell 4
  have b0 := Blk.new w zeroNv.cells 56
  have ka : Kept Nil w (w.alloc (.cells zeroNv.cells 56)) := (Kept.refl Nil w).alloc _
  have hc0 := hc.kept ka hb (fun hx => hx)
  have s0 : (w.alloc (.cells zeroNv.cells 56)).heap.size = w.heap.size + 1 := size_alloc1 _ _
  simp only [Nv.cells, zeroNv] at c4
  go_enter Tryz.func86, Tryz.ntmps86
  go_wp2_with fail
  refine (bothKinds_rd (w := w.alloc (.cells zeroNv.cells 56)) (cap := cap) hc0 hr (by omega) hne (by omega)).mono ?_
  rintro e w1 ⟨v1, rfl, hv1, hk1⟩
  have hbr := both_rune_len l l hr hr
  obtain ⟨b1, cap1, hv1e, hb11, hb12, hc1, _⟩ := cells_of_own hv1 (bothOf_ne hne)
  have hk01 := ka.trans hk1
  rw [hv1e]
  go_wp2_with fail
  refine (newSet_rd (cap := cap1) hc1 hbr.1 (by show (bothOf l).length ≤ _; unfold bothOf; omega) (bothOf_ne hne) hb12).mono ?_
  rintro e w2 ⟨l', v2, hp, hs, rfl, hv2, hk2⟩
  have hr' : RuneSp l' := fun s h => (hbr.1) s (hp.mem_iff.1 h)
  have hml := mergeAll_rune_len l' hr'
  have hk02 := hk01.trans hk2
  have b2 := (b0.kept hk1 (fun hx => hx)).kept hk2 (fun hx => hx)
  have hll : l'.length ≤ 5700 := by have := hp.length_eq; have := hbr.2; simp only [bothOf] at *; omega
  have hs1 : w.heap.size + 1 ≤ w1.heap.size := by have := hk01.size; have := hk1.size; omega
  obtain ⟨sa, sc, hv3e, hpt⟩ := PTAt.leaf (sp := l) (fo := true) (nt := false) (own32_base hv2 hs1) ⟨l', by simpa using hp, hs, rfl⟩ hr hl
  rw [hv3e]
  obtain ⟨e0, e1, e2, e3, e4, e5, e6, e7⟩ := b2.eight
  obtain ⟨g0, g1, g2, g3, g4, g5, g6, g7⟩ := b2.thaw
  simp only [zeroNv] at e0 e1 e2 e3 e4 e5 e6 e7
  have hlt9 : w.heap.size < w2.heap.size := b2.lt
  go_wp2_with fail
  have fin := node_close h (h.nil hk02) hpt (by omega) (Nat.le_refl _) (hk02.mono (fun _ hx => hx.elim))
  have bfin := putNv_blk b2 (setNv sa (mergeAll l').length sc)
  simp only [putNv, setNv] at fin bfin
  refine node_ret (i := 6) (b := w.heap.size) (q := setNv sa (mergeAll l').length sc) Tryz.results86 ?_ ?_ ?_ ?_
  · rfl
  · rfl
  · exact bfin
  · exact ⟨_, rfl, fin⟩

set_option maxHeartbeats 1000000 in
theorem anyOf_TT {w : World} {g : RG} {st : RS} (h : RdAt w g true st) {b cap : Nat} {l : Spans} (hc : Cells32 w b l) (hr : RuneSp l) (hl : l.length ≤ 1900) (hne : l ≠ []) (hb : b < w.heap.size) :
    Calls Tryz.prog 86 #[.pointer (some ⟨g.b, 0, none⟩), .slice (some ⟨b, 0, none⟩) l.length cap, .bool true] w fun e w' => ∃ q, e = .returned (Nv.val q) ∧ RdAt w' g true st ∧ PTAt w' w.heap.size w'.heap.size q single (cLeaf l true true) ∧ Kept g.own w w' := by
  have ha := h.nil ((Kept.refl Nil w).alloc (.cells zeroNv.cells 56))
  have c4 : (w.alloc (.cells zeroNv.cells 56)).cell? ⟨g.b, 4, none⟩ = some (.bool true) := ha.blk.cell 4
  have b0 := Blk.new w zeroNv.cells 56
  have ka : Kept Nil w (w.alloc (.cells zeroNv.cells 56)) := (Kept.refl Nil w).alloc _
  have hc0 := hc.kept ka hb (fun hx => hx)
  have s0 : (w.alloc (.cells zeroNv.cells 56)).heap.size = w.heap.size + 1 := size_alloc1 _ _
  simp only [Nv.cells, zeroNv] at c4
  go_enter Tryz.func86, Tryz.ntmps86
  go_wp2_with fail
  refine (bothKinds_rd (w := w.alloc (.cells zeroNv.cells 56)) (cap := cap) hc0 hr (by omega) hne (by omega)).mono ?_
  rintro e w1 ⟨v1, rfl, hv1, hk1⟩
  have hbr := both_rune_len l l hr hr
  obtain ⟨b1, cap1, hv1e, hb11, hb12, hc1, _⟩ := cells_of_own hv1 (bothOf_ne hne)
  have hk01 := ka.trans hk1
  rw [hv1e]
  go_wp2_with fail
  refine (newSet_rd (cap := cap1) hc1 hbr.1 (by show (bothOf l).length ≤ _; unfold bothOf; omega) (bothOf_ne hne) hb12).mono ?_
  rintro e w2 ⟨l', v2, hp, hs, rfl, hv2, hk2⟩
  have hr' : RuneSp l' := fun s h => (hbr.1) s (hp.mem_iff.1 h)
  have hml := mergeAll_rune_len l' hr'
  have hk02 := hk01.trans hk2
  have b2 := (b0.kept hk1 (fun hx => hx)).kept hk2 (fun hx => hx)
  have hll : l'.length ≤ 5700 := by have := hp.length_eq; have := hbr.2; simp only [bothOf] at *; omega
  have hs1 : w.heap.size + 1 ≤ w1.heap.size := by have := hk01.size; have := hk1.size; omega
  obtain ⟨ao2, b2', cap2, hv2e, x1, x2, x3⟩ := own_read hv2
  rw [hv2e]
  go_wp2_with fail
  refine (others_rd (cap := cap2) x1 x2 hml.1 (by omega) x3).mono ?_
  rintro e w3 ⟨v3, rfl, hv3, hk3⟩
  have hk03 := hk02.trans hk3
  have b3 := b2.kept hk3 (fun hx => hx)
  have hs2 : w.heap.size + 1 ≤ w2.heap.size := by have := hk2.size; omega
  obtain ⟨sa, sc, hv3e, hpt⟩ := PTAt.leaf (sp := l) (fo := true) (nt := true) (own32_base hv3 hs2) ⟨l', by simpa using hp, hs, rfl⟩ hr hl
  rw [hv3e]
  obtain ⟨e0, e1, e2, e3, e4, e5, e6, e7⟩ := b3.eight
  obtain ⟨g0, g1, g2, g3, g4, g5, g6, g7⟩ := b3.thaw
  simp only [zeroNv] at e0 e1 e2 e3 e4 e5 e6 e7
  have hlt9 : w.heap.size < w3.heap.size := b3.lt
  go_wp2_with fail
  have fin := node_close h (h.nil hk03) hpt (by omega) (Nat.le_refl _) (hk03.mono (fun _ hx => hx.elim))
  have bfin := putNv_blk b3 (setNv sa (othersOf (mergeAll l')).length sc)
  simp only [putNv, setNv] at fin bfin
  refine node_ret (i := 6) (b := w.heap.size) (q := setNv sa (othersOf (mergeAll l')).length sc) Tryz.results86 ?_ ?_ ?_ ?_
  · rfl
  · rfl
  · exact bfin
  · exact ⟨_, rfl, fin⟩

theorem anyOf_rd {w : World} {g : RG} {fo : Bool} {st : RS} (h : RdAt w g fo st) {b cap : Nat} {l : Spans} (nt : Bool) (hc : Cells32 w b l) (hr : RuneSp l) (hl : l.length ≤ 1900) (hne : l ≠ []) (hb : b < w.heap.size) :
    Calls Tryz.prog 86 #[.pointer (some ⟨g.b, 0, none⟩), .slice (some ⟨b, 0, none⟩) l.length cap, .bool nt] w fun e w' => ∃ q, e = .returned (Nv.val q) ∧ RdAt w' g fo st ∧ PTAt w' w.heap.size w'.heap.size q single (cLeaf l fo nt) ∧ Kept g.own w w' := by
  cases fo
  · cases nt
    · exact anyOf_FF h hc hr hl hne hb
    · exact anyOf_FT h hc hr hl hne hb
  · cases nt
    · exact anyOf_TF h hc hr hl hne hb
    · exact anyOf_TT h hc hr hl hne hb
end Go.Proofs.YtnbfddjaonlmaaaGreatDoor

namespace Go.Proofs.YtnbfddjaonlmaaaGreatDoor
open Go.RowKit Go.Maps
set_option linter.unusedVariables false
set_option maxRecDepth 100000

theorem lit_own {w wz : World} {S : Nat → Prop} (k : Kept S w wz) (x y : Int) : (wz.alloc (.cells #[.int .i32 x, .int .i32 y] 149)).ownsRow w.heap.size 149 2 (.slice (some ⟨wz.heap.size, 0, none⟩) 1 1) 1 (flat32 [(x, y)]) :=
  own32_base (own_lit wz [(x, y)] (by simp)) k.size

theorem item_set {w : World} {g : RG} {fo : Bool} {st : RS} (h : RdAt w g fo st) (hb : inSet lBack (seeOf g st) = true) (hs : inSet lSets (seeOf g { st with next := st.next + 1 }) = true) :
    Calls Tryz.prog 102 #[.pointer (some ⟨g.b, 0, none⟩)] w fun e w' => ∃ v, e = .returned v ∧ RdAt w' g fo (pItem g st) ∧ w'.ownsRow w.heap.size 149 2 v (cItem g st).length (flat32 (cItem g st)) ∧ Kept g.own w w' := by
  have e1 : pItem g st = { st with next := st.next + 2 } := by unfold pItem; rw [if_pos ⟨hb, hs⟩]
  have e2 : cItem g st = setSpans (seeOf g { st with next := st.next + 1 }) := by unfold cItem; rw [if_pos ⟨hb, hs⟩]
  rw [e1, e2]
  clear e1 e2
  go_enter Tryz.func102, Tryz.ntmps102
  go_wp2_with fail
  refine (placeL h).mono ?_
  rintro e w1 ⟨rfl, h1, hk1⟩
  go_wp2_with fail
  refine (takeY h1 _ lBack (by rfl) (by decide) hb).mono ?_
  rintro e w2 ⟨rfl, h2, hk2⟩
  go_wp2_with fail
  refine (seeL h2).mono ?_
  rintro e w3 ⟨rfl, h3, hk3⟩
  go_wp2_with fail
  refine (takeY h3 _ lSets (by rfl) (by decide) hs).mono ?_
  rintro e w4 ⟨rfl, h4, hk4⟩
  go_wp2_with fail
  refine (setOf_rd _ w4).mono ?_
  rintro e w5 ⟨v, rfl, hv, hk5⟩
  go_wp2_with fail
  go_ret
  have kk := ((hk1.trans hk2).trans hk3).trans hk4
  exact ⟨v, rfl, h4.nil hk5, own32_base hv kk.size, kk.trans (hk5.mono (fun _ hx => hx.elim))⟩

set_option maxHeartbeats 1000000 in
theorem item_plain {w : World} {g : RG} {fo : Bool} {st : RS} (h : RdAt w g fo st) (hb : inSet lBack (seeOf g st) = false) :
    Calls Tryz.prog 102 #[.pointer (some ⟨g.b, 0, none⟩)] w fun e w' => ∃ v, e = .returned v ∧ RdAt w' g fo (pItem g st) ∧ w'.ownsRow w.heap.size 149 2 v (cItem g st).length (flat32 (cItem g st)) ∧ Kept g.own w w' := by
  have hp : 0 ≤ placeOf g st ∧ placeOf g st ≤ 300 := h.prange st.next
  have HSET : Hid (¬ (inSet lBack (seeOf g st) = true ∧ inSet lSets (seeOf g { st with next := st.next + 1 }) = true)) := by show ¬ _; rw [hb]; simp
  have ex : pOne' g st = pOne g false (takeOf g lBack st) := by simp [pOne', hb]
  have et : takeOf g lBack st = st := by simp [takeOf, hb]
  rw [et] at ex
  clear et
  have EX : Hid (pOne' g st = pOne g false st) := ex
  clear ex
  go_enter Tryz.func102, Tryz.ntmps102
  go_wp2_with fail
  refine (placeL h).mono ?_
  rintro e w1 ⟨rfl, h1, hk1⟩
  go_wp2_with fail
  refine (takeN h1 _ lBack (by rfl) (by decide) hb).mono ?_
  rintro e w2 ⟨rfl, h2, hk2⟩
  go_wp2_with fail
  refine (seeL h2).mono ?_
  rintro e w3 ⟨rfl, h3, hk3⟩
  go_wp2_with fail
  refine (one_rd false h3).mono ?_
  rintro e w4 ⟨rfl, h4, hk4⟩
  rw [← EX.out] at h4 ⊢
  go_wp2_with fail
  cases hd : inSet lDash (seeOf g (pOne' g st).1)
  · have EC : Hid (cItem g st = [((pOne' g st).2, (pOne' g st).2)]) := by show _ = _; unfold cItem; rw [if_neg HSET.out, if_neg (by rw [hd]; simp)]
    refine (takeN h4 _ lDash (by rfl) (by decide) hd).mono ?_
    rintro e w5 ⟨rfl, h5, hk5⟩
    go_wp2_with fail
    go_ret
    have kk := (((hk1.trans hk2).trans hk3).trans hk4).trans hk5
    refine ⟨_, rfl, ?_, by rw [EC.out]; exact lit_own kk _ _, kk.alloc _⟩
    rw [show pItem g st = (pOne' g st).1 by unfold pItem; rw [if_neg HSET.out]; unfold pUpto; rw [if_neg (by simp [hd])]]
    exact h5.nil ((Kept.refl _ _).alloc _)
  · have EC : Hid (cItem g st = [((pOne' g st).2, (pOne' g { (pOne' g st).1 with next := (pOne' g st).1.next + 1 }).2)]) := by show _ = _; unfold cItem; rw [if_neg HSET.out, if_pos hd]
    refine (takeY h4 _ lDash (by rfl) (by decide) hd).mono ?_
    rintro e w5 ⟨rfl, h5, hk5⟩
    go_wp2_with fail
    refine (takeL h5 _ lBack (by rfl) (by decide)).mono ?_
    rintro e w6 ⟨rfl, h6, hk6⟩
    go_wp2_with fail
    refine (one'_rd h6).mono ?_
    rintro e w7 ⟨rfl, h7, hk7⟩
    by_cases hlt : (pOne' g { (pOne' g st).1 with next := (pOne' g st).1.next + 1 }).2 < (pOne' g st).2
    · go_wp2_with fail
      refine (note_any h7 5 _ (by omega) hp).mono ?_
      rintro e w8 ⟨rfl, h8, hk8⟩
      go_wp2_with fail
      go_ret
      have kk := ((((((hk1.trans hk2).trans hk3).trans hk4).trans hk5).trans hk6).trans hk7).trans hk8
      refine ⟨_, rfl, ?_, by rw [EC.out]; exact lit_own kk _ _, kk.alloc _⟩
      rw [show pItem g st = (pOne' g { (pOne' g st).1 with next := (pOne' g st).1.next + 1 }).1.note 5 (placeOf g st) by unfold pItem; rw [if_neg HSET.out]; unfold pUpto; rw [if_pos hd, if_pos hlt]]
      exact h8.nil ((Kept.refl _ _).alloc _)
    · go_wp2_with fail
      go_ret
      have kk := (((((hk1.trans hk2).trans hk3).trans hk4).trans hk5).trans hk6).trans hk7
      refine ⟨_, rfl, ?_, by rw [EC.out]; exact lit_own kk _ _, kk.alloc _⟩
      rw [show pItem g st = (pOne' g { (pOne' g st).1 with next := (pOne' g st).1.next + 1 }).1 by unfold pItem; rw [if_neg HSET.out]; unfold pUpto; rw [if_pos hd, if_neg (Int.not_lt.2 hlt)]]
      exact h7.nil ((Kept.refl _ _).alloc _)

set_option maxHeartbeats 1000000 in
theorem item_esc {w : World} {g : RG} {fo : Bool} {st : RS} (h : RdAt w g fo st) (hb : inSet lBack (seeOf g st) = true) (hs : inSet lSets (seeOf g { st with next := st.next + 1 }) = false) :
    Calls Tryz.prog 102 #[.pointer (some ⟨g.b, 0, none⟩)] w fun e w' => ∃ v, e = .returned v ∧ RdAt w' g fo (pItem g st) ∧ w'.ownsRow w.heap.size 149 2 v (cItem g st).length (flat32 (cItem g st)) ∧ Kept g.own w w' := by
  have hp : 0 ≤ placeOf g st ∧ placeOf g st ≤ 300 := h.prange st.next
  have HSET : Hid (¬ (inSet lBack (seeOf g st) = true ∧ inSet lSets (seeOf g { st with next := st.next + 1 }) = true)) := by show ¬ _; rw [hs]; simp
  have ex : pOne' g st = pOne g true (takeOf g lBack st) := by simp [pOne', hb]
  have et : takeOf g lBack st = { st with next := st.next + 1 } := by simp [takeOf, hb]
  rw [et] at ex
  clear et
  have EX : Hid (pOne' g st = pOne g true { st with next := st.next + 1 }) := ex
  clear ex
  go_enter Tryz.func102, Tryz.ntmps102
  go_wp2_with fail
  refine (placeL h).mono ?_
  rintro e w1 ⟨rfl, h1, hk1⟩
  go_wp2_with fail
  refine (takeY h1 _ lBack (by rfl) (by decide) hb).mono ?_
  rintro e w2 ⟨rfl, h2, hk2⟩
  go_wp2_with fail
  refine (seeL h2).mono ?_
  rintro e w3 ⟨rfl, h3, hk3⟩
  go_wp2_with fail
  refine (takeN h3 _ lSets (by rfl) (by decide) hs).mono ?_
  rintro e w3' ⟨rfl, h3', hk3'⟩
  go_wp2_with fail
  refine (one_rd true h3').mono ?_
  rintro e w4 ⟨rfl, h4, hk4⟩
  rw [← EX.out] at h4 ⊢
  go_wp2_with fail
  cases hd : inSet lDash (seeOf g (pOne' g st).1)
  · have EC : Hid (cItem g st = [((pOne' g st).2, (pOne' g st).2)]) := by show _ = _; unfold cItem; rw [if_neg HSET.out, if_neg (by rw [hd]; simp)]
    refine (takeN h4 _ lDash (by rfl) (by decide) hd).mono ?_
    rintro e w5 ⟨rfl, h5, hk5⟩
    go_wp2_with fail
    go_ret
    have kk := ((((hk1.trans hk2).trans hk3).trans hk3').trans hk4).trans hk5
    refine ⟨_, rfl, ?_, by rw [EC.out]; exact lit_own kk _ _, kk.alloc _⟩
    rw [show pItem g st = (pOne' g st).1 by unfold pItem; rw [if_neg HSET.out]; unfold pUpto; rw [if_neg (by simp [hd])]]
    exact h5.nil ((Kept.refl _ _).alloc _)
  · have EC : Hid (cItem g st = [((pOne' g st).2, (pOne' g { (pOne' g st).1 with next := (pOne' g st).1.next + 1 }).2)]) := by show _ = _; unfold cItem; rw [if_neg HSET.out, if_pos hd]
    refine (takeY h4 _ lDash (by rfl) (by decide) hd).mono ?_
    rintro e w5 ⟨rfl, h5, hk5⟩
    go_wp2_with fail
    refine (takeL h5 _ lBack (by rfl) (by decide)).mono ?_
    rintro e w6 ⟨rfl, h6, hk6⟩
    go_wp2_with fail
    refine (one'_rd h6).mono ?_
    rintro e w7 ⟨rfl, h7, hk7⟩
    by_cases hlt : (pOne' g { (pOne' g st).1 with next := (pOne' g st).1.next + 1 }).2 < (pOne' g st).2
    · go_wp2_with fail
      refine (note_any h7 5 _ (by omega) hp).mono ?_
      rintro e w8 ⟨rfl, h8, hk8⟩
      go_wp2_with fail
      go_ret
      have kk := (((((((hk1.trans hk2).trans hk3).trans hk3').trans hk4).trans hk5).trans hk6).trans hk7).trans hk8
      refine ⟨_, rfl, ?_, by rw [EC.out]; exact lit_own kk _ _, kk.alloc _⟩
      rw [show pItem g st = (pOne' g { (pOne' g st).1 with next := (pOne' g st).1.next + 1 }).1.note 5 (placeOf g st) by unfold pItem; rw [if_neg HSET.out]; unfold pUpto; rw [if_pos hd, if_pos hlt]]
      exact h8.nil ((Kept.refl _ _).alloc _)
    · go_wp2_with fail
      go_ret
      have kk := ((((((hk1.trans hk2).trans hk3).trans hk3').trans hk4).trans hk5).trans hk6).trans hk7
      refine ⟨_, rfl, ?_, by rw [EC.out]; exact lit_own kk _ _, kk.alloc _⟩
      rw [show pItem g st = (pOne' g { (pOne' g st).1 with next := (pOne' g st).1.next + 1 }).1 by unfold pItem; rw [if_neg HSET.out]; unfold pUpto; rw [if_pos hd, if_neg (Int.not_lt.2 hlt)]]
      exact h7.nil ((Kept.refl _ _).alloc _)

theorem item_rd {w : World} {g : RG} {fo : Bool} {st : RS} (h : RdAt w g fo st) :
    Calls Tryz.prog 102 #[.pointer (some ⟨g.b, 0, none⟩)] w fun e w' => ∃ v, e = .returned v ∧ RdAt w' g fo (pItem g st) ∧ w'.ownsRow w.heap.size 149 2 v (cItem g st).length (flat32 (cItem g st)) ∧ Kept g.own w w' := by
  cases hb : inSet lBack (seeOf g st)
  · exact item_plain h hb
  · cases hs : inSet lSets (seeOf g { st with next := st.next + 1 })
    · exact item_esc h hb hs
    · exact item_set h hb hs

set_option maxHeartbeats 1000000 in
theorem class_rd {w : World} {g : RG} {fo : Bool} {st : RS} (h : RdAt w g fo st) :
    Calls Tryz.prog 84 #[.pointer (some ⟨g.b, 0, none⟩)] w fun e w' => ∃ q, e = .returned (Nv.val q) ∧ RdAt w' g fo (pClass g st) ∧ PTAt w' w.heap.size w'.heap.size q single (cClass g fo st) ∧ Kept g.own w w' := by
  obtain ⟨i0, hi0, hz0, hz1, hz2⟩ := info_parts Tryz.infoSpan32
  have hsee : ∀ st : RS, -1 ≤ seeOf g st ∧ seeOf g st ≤ 1114111 := h.see_range
  have hlen := h.len
  have hnown : ∀ i, w.heap.size ≤ i → ¬ g.own i := fun i hi hx => by have := h.own_lt hx; omega
  have ha := h.nil ((Kept.refl Nil w).alloc (.cells zeroNv.cells 56))
  have b0 := Blk.new w zeroNv.cells 56
  have ka : Kept g.own w (w.alloc (.cells zeroNv.cells 56)) := (Kept.refl _ w).alloc _
  have s0 : (w.alloc (.cells zeroNv.cells 56)).heap.size = w.heap.size + 1 := size_alloc1 _ _
  unfold pClass cClass
  go_enter Tryz.func84, Tryz.ntmps84
  go_wp2_with fail
  refine (takeL ha _ lCaret (by rfl) (by decide)).mono ?_
  rintro e w1 ⟨rfl, h1, hk1⟩
  go_wp2_with fail
  refine (item_rd h1).mono ?_
  rintro e w2 ⟨v2, rfl, h2, hv2, hk2⟩
  go_wp2_with fail
  have hk12 := (ka.trans hk1).trans hk2
  have b2 := (b0.kept hk1 (hnown _ (Nat.le_refl _))).kept hk2 (hnown _ (Nat.le_refl _))
  have s1 := hk1.size
  have hv2' := own32_base (base' := w.heap.size + 1) hv2 (by omega)
  have hci := cItem_rune hsee (takeOf g lCaret st)
  clear hk1 hk2 h1 ha hv2 b0 ka
  generalize hst : pItem g (takeOf g lCaret st) = st0 at h2
  have HST : Hid (pItem g (takeOf g lCaret st) = st0) := hst
  clear hst
  generalize hac : cItem g (takeOf g lCaret st) = acc0 at hv2' hci
  have HAC : Hid (cItem g (takeOf g lCaret st) = acc0) := hac
  clear hac
  go_loopg [4] (g.rs.length - st0.next) (fun k v wr => ∃ st1 m acc, RdAt wr g fo st1 ∧ Hid (pItems g m st1 = pItems g (g.rs.length + 1) st0) ∧ Hid (cItems g m st1 acc = cItems g (g.rs.length + 1) st0 acc0) ∧ k = g.rs.length - st1.next ∧ k < m ∧ Kept g.own w wr ∧ wr.ownsRow (w.heap.size + 1) 149 2 v acc.length (flat32 acc) ∧ RuneSp acc ∧ 1 ≤ acc.length ∧ acc.length ≤ 4 * st1.next + 4 ∧ Blk wr w.heap.size zeroNv.cells 56)
  case atStart => exact ⟨st0, g.rs.length + 1, acc0, h2, rfl, rfl, rfl, by omega, hk12, hv2', hci.1, hci.2.1, by omega, b2⟩
  case round =>
    obtain ⟨st1, m, acc, hr, HP, HC, rfl, hm, hk, hown, hrs, hl1, hl2, hbz⟩ := hrel
    have hle := hr.next
    have hks := hk.size
    clear h2 hk12 hv2' b2
    by_cases hfin : seeOf g st1 = -1 ∨ inSet lSquare (seeOf g st1) = true
    · have HPe : Hid (st1 = pItems g (g.rs.length + 1) st0) := by show _ = _; rw [← HP.out, pItems_end g m st1 hfin]
      have HCe : Hid (acc = cItems g (g.rs.length + 1) st0 acc0) := by show _ = _; rw [← HC.out, cItems_end g m st1 acc hfin]
      have hne : acc ≠ [] := by intro e; subst e; simp at hl1
      have hgo : ∀ {wx : World}, RdAt wx g fo st1 → Kept g.own wr wx → True := fun _ _ => trivial
      clear HP HC
      obtain ⟨gb, gcap, hve, hg1, hg2, hcc, _⟩ := cells_of_own hown hne
      by_cases hend : seeOf g st1 = -1
      · have hb : (seeOf g st1 != -1) = false := by simp [hend]
        clear hend hfin
        go_wp2_with fail
        refine (seeL hr).mono ?_
        rintro e w3 ⟨rfl, h3, hk3⟩
        go_wp2_with fail
        refine (needL h3 _ lSquare (by rfl) (by decide)).mono ?_
        rintro e w4 ⟨rfl, h4, hk4⟩
        have kk := hk3.trans hk4
        have hng : ¬ g.own gb := hnown _ (by omega)
        have hcc4 := hcc.kept kk hg2 hng
        have b4 := hbz.kept kk (hnown _ (Nat.le_refl _))
        have kw4 := hk.trans kk
        have s4 := kk.size
        try rw [hve]
        go_wp2_with fail
        refine (anyOf_rd (cap := gcap) h4 (inSet lCaret (seeOf g st)) hcc4 hrs (by omega) hne (by omega)).mono ?_
        rintro e w5 ⟨q, rfl, h5, hp5, hk5⟩
        have b5 := b4.kept hk5 (hnown _ (Nat.le_refl _))
        obtain ⟨e0, e1, e2, e3, e4, e5, e6, e7⟩ := b5.eight
        obtain ⟨g0, g1, g2, g3, g4, g5, g6, g7⟩ := b5.thaw
        simp only [zeroNv] at e0 e1 e2 e3 e4 e5 e6 e7
        have hlt9 : w.heap.size < w5.heap.size := b5.lt
        have hlt8 : w.heap.size < w4.heap.size := b4.lt
        simp only [Nv.val, Nv.cells]
        go_wp2_with fail
        have fin := node_close h h5 hp5 (by omega) (Nat.le_refl _) (kw4.trans hk5)
        have bfin := putNv_blk b5 q
        simp only [putNv] at fin bfin
        refine node_ret (i := 2) (b := w.heap.size) (q := q) Tryz.results84 ?_ ?_ ?_ ?_
        · rfl
        · rfl
        · exact bfin
        · rw [HST.out, HAC.out, ← HPe.out, ← HCe.out]; exact ⟨_, rfl, fin⟩
      · have hb : (seeOf g st1 != -1) = true := by simp [hend]
        have hsq : inSet lSquare (seeOf g st1) = true := hfin.resolve_left hend
        clear hend hfin
        go_wp2_with fail
        refine (seeL hr).mono ?_
        rintro e w3' ⟨rfl, h3', hk3'⟩
        go_wp2_with fail
        refine (seesL h3' _ lSquare (by rfl) (by decide)).mono ?_
        rintro e w3 ⟨rfl, h3, hk3''⟩
        have hk3 := hk3'.trans hk3''
        rw [hsq]
        go_wp2_with fail
        refine (needL h3 _ lSquare (by rfl) (by decide)).mono ?_
        rintro e w4 ⟨rfl, h4, hk4⟩
        have kk := hk3.trans hk4
        have hng : ¬ g.own gb := hnown _ (by omega)
        have hcc4 := hcc.kept kk hg2 hng
        have b4 := hbz.kept kk (hnown _ (Nat.le_refl _))
        have kw4 := hk.trans kk
        have s4 := kk.size
        try rw [hve]
        go_wp2_with fail
        refine (anyOf_rd (cap := gcap) h4 (inSet lCaret (seeOf g st)) hcc4 hrs (by omega) hne (by omega)).mono ?_
        rintro e w5 ⟨q, rfl, h5, hp5, hk5⟩
        have b5 := b4.kept hk5 (hnown _ (Nat.le_refl _))
        obtain ⟨e0, e1, e2, e3, e4, e5, e6, e7⟩ := b5.eight
        obtain ⟨g0, g1, g2, g3, g4, g5, g6, g7⟩ := b5.thaw
        simp only [zeroNv] at e0 e1 e2 e3 e4 e5 e6 e7
        have hlt9 : w.heap.size < w5.heap.size := b5.lt
        have hlt8 : w.heap.size < w4.heap.size := b4.lt
        simp only [Nv.val, Nv.cells]
        go_wp2_with fail
        have fin := node_close h h5 hp5 (by omega) (Nat.le_refl _) (kw4.trans hk5)
        have bfin := putNv_blk b5 q
        simp only [putNv] at fin bfin
        refine node_ret (i := 2) (b := w.heap.size) (q := q) Tryz.results84 ?_ ?_ ?_ ?_
        · rfl
        · rfl
        · exact bfin
        · rw [HST.out, HAC.out, ← HPe.out, ← HCe.out]; exact ⟨_, rfl, fin⟩
    · rw [not_or] at hfin
      have hb : (seeOf g st1 != -1) = true := by simp [hfin.1]
      have hlt := lt_of_see hfin.1
      have hsq : inSet lSquare (seeOf g st1) = false := by simpa using hfin.2
      clear hfin
      have hcj := cItem_rune hsee st1
      go_wp2_with fail
      refine (seeL hr).mono ?_
      rintro e w3 ⟨rfl, h3, hk3⟩
      go_wp2_with fail
      refine (seesL h3 _ lSquare (by rfl) (by decide)).mono ?_
      rintro e w4 ⟨rfl, h4, hk4⟩
      rw [hsq]
      go_wp2_with fail
      refine (item_rd h4).mono ?_
      rintro e w5 ⟨v5, rfl, h5, hv5, hk5⟩
      have kk := (hk3.trans hk4).trans hk5
      have hown5 := own32_kept hown kk (fun b hb' hx => by have := (own32_block hown hb').1; exact hnown b (by omega) hx)
      have hbz5 := hbz.kept kk (hnown _ (Nat.le_refl _))
      have hn := pItem_next g st1 (by omega)
      have hnl := hn.2.2 hlt
      have hne5 : cItem g st1 ≠ [] := by intro e; rw [e] at hcj; simp at hcj
      have HPI : Hid (pItems g m st1 = pItems g (m - 1) (pItem g st1) ∧ cItems g m st1 acc = cItems g (m - 1) (pItem g st1) (acc ++ cItem g st1)) := by
        obtain ⟨m', rfl⟩ : ∃ m', m = m' + 1 := ⟨m - 1, by omega⟩
        have hc' : ¬ (seeOf g st1 = -1 ∨ inSet lSquare (seeOf g st1) = true) := by simp [hsq]; simpa using hb
        exact ⟨by show (if _ then _ else _) = _; rw [if_neg hc']; rfl, by show (if _ then _ else _) = _; rw [if_neg hc']; rfl⟩
      have s5 := kk.size
      generalize cItem g st1 = new at *
      obtain ⟨gb, gcap, hve, hg1, hg2, hcc, _⟩ := cells_of_own hv5 hne5
      try rw [hve]
      go_wp2_with (at_builtin; refine wpList_append_own_at _ rfl _ _ 52 rfl (w.heap.size + 1) 149 i0 _ 2 8 Tryz.underlying52 hi0 hz0 hz1 hz2 rfl (by decide) _ acc.length _ rfl hown5 ⟨gb, 0, none⟩ new.length gcap (flat32 new) rfl (flat32_length new) (cells_add hcc) (flat32_one new) ?c3 ?c4 ?c5 ?_)
      case c3 => unfold maxLen; omega
      case c4 => omega
      case c5 => have := hbz5.lt; omega
      intro v' w7 hown' hgrow hnil hloc
      have k7 : Kept (fun i => u4.ownBlock = some i) w5 w7 := (Kept.refl _ w5).grown hgrow (fun j hj => Or.inl hj)
      have hge : ∀ i, u4.ownBlock = some i → w.heap.size + 1 ≤ i := fun i hi => (own32_block hown hi).1
      have h7 := h5.new h k7 (fun i hi => by have := hge i hi; omega)
      have kw7 := (hk.trans kk).trans' k7 (fun i hi he => by have := hge i he; omega)
      have hbz7 := hbz5.kept k7 (fun he => by have := hge _ he; omega)
      have hown7 : w7.ownsRow (w.heap.size + 1) 149 2 v' (acc ++ new).length (flat32 (acc ++ new)) := by rw [flat32_append, List.length_append]; exact hown'
      clear hown' hgrow hloc hnil hown5 hown hk5 hk4 hk3 kk k7 hbz hbz5 hcc hv5
      go_wp2_with fail
      go_roundg (g.rs.length - (pItem g st1).next)
      case measure => omega
      case rel =>
        exact ⟨pItem g st1, m - 1, acc ++ new, h7, (HPI.out.1.symm.trans HP.out), (HPI.out.2.symm.trans HC.out), rfl, by omega, kw7, hown7, hrs.append hcj.1, by simp; omega, by simp; omega, hbz7⟩
end Go.Proofs.YtnbfddjaonlmaaaGreatDoor

namespace Go.Proofs.YtnbfddjaonlmaaaGreatDoor
open Go.RowKit Go.Maps
set_option linter.unusedVariables false
set_option maxRecDepth 100000

theorem lit_cells (w : World) (x y : Int) : Cells32 (w.alloc (.cells #[.int .i32 x, .int .i32 y] 149)) w.heap.size [(x, y)] := by
  intro i hi
  have e : i = 0 := by simp at hi; omega
  subst e
  exact ⟨(Blk.new w #[.int .i32 x, .int .i32 y] 149).cell 0, (Blk.new w #[.int .i32 x, .int .i32 y] 149).cell 1⟩
theorem edgeNo_range (r : Int) : 0 ≤ edgeNo r ∧ edgeNo r ≤ 3 := by
  unfold edgeNo
  split
  · omega
  · split
    · omega
    · split <;> omega
theorem escape_sets (r : Int) : inSet lEscape r = (inSet lMarks r || (inSet lSets r || (inSet lOthers r || inSet lWordEdge r))) := by
  have e : lEscape = lMarks ++ [100, 68, 119, 87, 115, 83, 98, 66] := rfl
  have h : inSet lEscape r = (inSet lMarks r || inSet [100, 68, 119, 87, 115, 83, 98, 66] r) := by rw [e]; unfold inSet; rw [List.any_append]
  rw [h]
  congr 1
  rw [Bool.eq_iff_iff]
  simp [inSet, lSets, lOthers, lWordEdge]
  omega
theorem others_letter {r : Int} (h : inSet lOthers r = true) : 65 ≤ r ∧ r ≤ 90 := by
  simp [inSet, lOthers] at h
  omega
theorem need_in {g : RG} {l : List UInt8} {st : RS} (h : inSet l (seeOf g st) = true) : needSt g l st = { st with next := st.next + 1 } := by unfold needSt; rw [if_pos h]

theorem escape_edge {w : World} {g : RG} {fo : Bool} {st : RS} (hR : RdAt w g fo st) (c1 : inSet lWordEdge (seeOf g st) = true) :
    Calls Tryz.prog 85 #[.pointer (some ⟨g.b, 0, none⟩)] w fun e w' => ∃ q, e = .returned (Nv.val q) ∧ RdAt w' g fo (needSt g lEscape st) ∧ PTAt w' w.heap.size w'.heap.size q single (cEscape fo (seeOf g st)) ∧ Kept g.own w w' := by
  rw [need_in (show inSet lEscape (seeOf g st) = true by rw [escape_sets, c1]; simp), show cEscape fo (seeOf g st) = cEdge (edgeNo (seeOf g st)) by unfold cEscape; rw [if_pos c1]]
  have hnown : ∀ i, w.heap.size ≤ i → ¬ g.own i := fun i hi hx => by have := hR.own_lt hx; omega
  have hsee : ∀ st : RS, -1 ≤ seeOf g st ∧ seeOf g st ≤ 1114111 := hR.see_range
  have ha := hR.nil ((Kept.refl Nil w).alloc (.cells zeroNv.cells 56))
  have b0 := Blk.new w zeroNv.cells 56
  have ka : Kept g.own w (w.alloc (.cells zeroNv.cells 56)) := (Kept.refl _ w).alloc _
  have s0 : (w.alloc (.cells zeroNv.cells 56)).heap.size = w.heap.size + 1 := size_alloc1 _ _
  go_enter Tryz.func85, Tryz.ntmps85
  go_wp2_with fail
  refine (seeL ha).mono ?_
  rintro e w1 ⟨rfl, h1, hk1⟩
  go_wp2_with fail
  refine (takeY h1 _ lWordEdge (by rfl) (by decide) c1).mono ?_
  rintro e w2 ⟨rfl, h2, hk2⟩
  go_wp2_with fail
  refine (edgeOf_rd _ _).mono ?_
  rintro e w3 ⟨rfl, rfl⟩
  have kk := (ka.trans hk1).trans hk2
  have bz := (b0.kept hk1 (hnown _ (Nat.le_refl _))).kept hk2 (hnown _ (Nat.le_refl _))
  have hpz := PTAt.edge w3 (w.heap.size + 1) w3.heap.size (edgeNo (seeOf g st)) (edgeNo_range _)
  obtain ⟨e0, e1, e2, e3, e4, e5, e6, e7⟩ := bz.eight
  obtain ⟨g0, g1, g2, g3, g4, g5, g6, g7⟩ := bz.thaw
  simp only [zeroNv] at e0 e1 e2 e3 e4 e5 e6 e7
  have hlt9 : w.heap.size < w3.heap.size := bz.lt
  go_wp2_with fail
  have fin := node_close hR h2 hpz (by omega) (Nat.le_refl _) kk
  have bfin := putNv_blk bz (edgeNv (edgeNo (seeOf g st)))
  simp only [putNv, edgeNv] at fin bfin
  refine node_ret (i := 2) (b := w.heap.size) (q := (edgeNv (edgeNo (seeOf g st)))) Tryz.results85 ?_ ?_ ?_ ?_
  · rfl
  · rfl
  · exact bfin
  · exact ⟨_, rfl, fin⟩

set_option maxHeartbeats 1000000 in
theorem escape_set {w : World} {g : RG} {fo : Bool} {st : RS} (hR : RdAt w g fo st) (c1 : inSet lWordEdge (seeOf g st) = false) (c2 : inSet lSets (seeOf g st) = true) :
    Calls Tryz.prog 85 #[.pointer (some ⟨g.b, 0, none⟩)] w fun e w' => ∃ q, e = .returned (Nv.val q) ∧ RdAt w' g fo (needSt g lEscape st) ∧ PTAt w' w.heap.size w'.heap.size q single (cEscape fo (seeOf g st)) ∧ Kept g.own w w' := by
  rw [need_in (show inSet lEscape (seeOf g st) = true by rw [escape_sets, c2]; simp), show cEscape fo (seeOf g st) = cLeaf (setSpans (seeOf g st)) fo false by unfold cEscape; rw [if_neg (by rw [c1]; simp), if_pos c2]]
  have hnown : ∀ i, w.heap.size ≤ i → ¬ g.own i := fun i hi hx => by have := hR.own_lt hx; omega
  have hsee : ∀ st : RS, -1 ≤ seeOf g st ∧ seeOf g st ≤ 1114111 := hR.see_range
  have ha := hR.nil ((Kept.refl Nil w).alloc (.cells zeroNv.cells 56))
  have b0 := Blk.new w zeroNv.cells 56
  have ka : Kept g.own w (w.alloc (.cells zeroNv.cells 56)) := (Kept.refl _ w).alloc _
  have s0 : (w.alloc (.cells zeroNv.cells 56)).heap.size = w.heap.size + 1 := size_alloc1 _ _
  go_enter Tryz.func85, Tryz.ntmps85
  go_wp2_with fail
  refine (seeL ha).mono ?_
  rintro e w1 ⟨rfl, h1, hk1⟩
  go_wp2_with fail
  refine (takeN h1 _ lWordEdge (by rfl) (by decide) c1).mono ?_
  rintro e w2 ⟨rfl, h2, hk2⟩
  go_wp2_with fail
  refine (takeY h2 _ lSets (by rfl) (by decide) c2).mono ?_
  rintro e w3 ⟨rfl, h3, hk3⟩
  go_wp2_with fail
  have kk := ((ka.trans hk1).trans hk2).trans hk3
  have b3 := ((b0.kept hk1 (hnown _ (Nat.le_refl _))).kept hk2 (hnown _ (Nat.le_refl _))).kept hk3 (hnown _ (Nat.le_refl _))
  refine (setOf_rd _ w3).mono ?_
  rintro e w6 ⟨v, rfl, hv, hk6⟩
  have hst := setSpans_rune (seeOf g st)
  obtain ⟨gb, gcap, hve, hg1, hg2, hcc, _⟩ := cells_of_own hv (by intro e; rw [e] at hst; simp at hst)
  have kk6 := kk.trans (hk6.mono (fun _ hx => hx.elim))
  have b6 := b3.kept hk6 (fun hx => hx)
  have s6 := kk6.size
  try rw [hve]
  go_wp2_with fail
  refine (anyOf_rd (cap := gcap) (h3.nil hk6) false hcc hst.1 (by omega) (by intro e; rw [e] at hst; simp at hst) hg2).mono ?_
  rintro e wz ⟨q, rfl, hz, hpz, hkz⟩
  have bz := b6.kept hkz (hnown _ (Nat.le_refl _))
  have kz := kk6.trans hkz
  have hlt8 : w.heap.size < w6.heap.size := b6.lt
  obtain ⟨e0, e1, e2, e3, e4, e5, e6, e7⟩ := bz.eight
  obtain ⟨g0, g1, g2, g3, g4, g5, g6, g7⟩ := bz.thaw
  simp only [zeroNv] at e0 e1 e2 e3 e4 e5 e6 e7
  have hlt9 : w.heap.size < wz.heap.size := bz.lt
  simp only [Nv.val, Nv.cells]
  go_wp2_with fail
  have fin := node_close hR hz hpz (by omega) (Nat.le_refl _) kz
  have bfin := putNv_blk bz q
  simp only [putNv] at fin bfin
  refine node_ret (i := 2) (b := w.heap.size) (q := q) Tryz.results85 ?_ ?_ ?_ ?_
  · rfl
  · rfl
  · exact bfin
  · exact ⟨_, rfl, fin⟩

set_option maxHeartbeats 1000000 in
theorem escape_others {w : World} {g : RG} {fo : Bool} {st : RS} (hR : RdAt w g fo st) (c1 : inSet lWordEdge (seeOf g st) = false) (c2 : inSet lSets (seeOf g st) = false) (c3 : inSet lOthers (seeOf g st) = true) :
    Calls Tryz.prog 85 #[.pointer (some ⟨g.b, 0, none⟩)] w fun e w' => ∃ q, e = .returned (Nv.val q) ∧ RdAt w' g fo (needSt g lEscape st) ∧ PTAt w' w.heap.size w'.heap.size q single (cEscape fo (seeOf g st)) ∧ Kept g.own w w' := by
  rw [need_in (show inSet lEscape (seeOf g st) = true by rw [escape_sets, c3]; simp), show cEscape fo (seeOf g st) = cLeaf (setSpans (seeOf g st + 32)) fo true by unfold cEscape; rw [if_neg (by rw [c1]; simp), if_neg (by rw [c2]; simp), if_pos c3]]
  have hnown : ∀ i, w.heap.size ≤ i → ¬ g.own i := fun i hi hx => by have := hR.own_lt hx; omega
  have hsee : ∀ st : RS, -1 ≤ seeOf g st ∧ seeOf g st ≤ 1114111 := hR.see_range
  have ha := hR.nil ((Kept.refl Nil w).alloc (.cells zeroNv.cells 56))
  have b0 := Blk.new w zeroNv.cells 56
  have ka : Kept g.own w (w.alloc (.cells zeroNv.cells 56)) := (Kept.refl _ w).alloc _
  have s0 : (w.alloc (.cells zeroNv.cells 56)).heap.size = w.heap.size + 1 := size_alloc1 _ _
  go_enter Tryz.func85, Tryz.ntmps85
  go_wp2_with fail
  refine (seeL ha).mono ?_
  rintro e w1 ⟨rfl, h1, hk1⟩
  go_wp2_with fail
  refine (takeN h1 _ lWordEdge (by rfl) (by decide) c1).mono ?_
  rintro e w2 ⟨rfl, h2, hk2⟩
  go_wp2_with fail
  refine (takeN h2 _ lSets (by rfl) (by decide) c2).mono ?_
  rintro e w3 ⟨rfl, h3, hk3⟩
  go_wp2_with fail
  refine (takeY h3 _ lOthers (by rfl) (by decide) c3).mono ?_
  rintro e w4 ⟨rfl, h4, hk4⟩
  go_wp2_with fail
  have kk := (((ka.trans hk1).trans hk2).trans hk3).trans hk4
  have b4 := (((b0.kept hk1 (hnown _ (Nat.le_refl _))).kept hk2 (hnown _ (Nat.le_refl _))).kept hk3 (hnown _ (Nat.le_refl _))).kept hk4 (hnown _ (Nat.le_refl _))
  refine (toLower_rd _ w4 (others_letter c3)).mono ?_
  rintro e w5 ⟨rfl, rfl⟩
  go_wp2_with fail
  refine (setOf_rd _ w5).mono ?_
  rintro e w6 ⟨v, rfl, hv, hk6⟩
  have hst := setSpans_rune (seeOf g st + 32)
  obtain ⟨gb, gcap, hve, hg1, hg2, hcc, _⟩ := cells_of_own hv (by intro e; rw [e] at hst; simp at hst)
  have kk6 := kk.trans (hk6.mono (fun _ hx => hx.elim))
  have b6 := b4.kept hk6 (fun hx => hx)
  have s6 := kk6.size
  try rw [hve]
  go_wp2_with fail
  refine (anyOf_rd (cap := gcap) (h4.nil hk6) true hcc hst.1 (by omega) (by intro e; rw [e] at hst; simp at hst) hg2).mono ?_
  rintro e wz ⟨q, rfl, hz, hpz, hkz⟩
  have bz := b6.kept hkz (hnown _ (Nat.le_refl _))
  have kz := kk6.trans hkz
  have hlt8 : w.heap.size < w6.heap.size := b6.lt
  obtain ⟨e0, e1, e2, e3, e4, e5, e6, e7⟩ := bz.eight
  obtain ⟨g0, g1, g2, g3, g4, g5, g6, g7⟩ := bz.thaw
  simp only [zeroNv] at e0 e1 e2 e3 e4 e5 e6 e7
  have hlt9 : w.heap.size < wz.heap.size := bz.lt
  simp only [Nv.val, Nv.cells]
  go_wp2_with fail
  have fin := node_close hR hz hpz (by omega) (Nat.le_refl _) kz
  have bfin := putNv_blk bz q
  simp only [putNv] at fin bfin
  refine node_ret (i := 2) (b := w.heap.size) (q := q) Tryz.results85 ?_ ?_ ?_ ?_
  · rfl
  · rfl
  · exact bfin
  · exact ⟨_, rfl, fin⟩

set_option maxHeartbeats 1000000 in
theorem escape_rune {w : World} {g : RG} {fo : Bool} {st : RS} (hR : RdAt w g fo st) (c1 : inSet lWordEdge (seeOf g st) = false) (c2 : inSet lSets (seeOf g st) = false) (c3 : inSet lOthers (seeOf g st) = false) :
    Calls Tryz.prog 85 #[.pointer (some ⟨g.b, 0, none⟩)] w fun e w' => ∃ q, e = .returned (Nv.val q) ∧ RdAt w' g fo (needSt g lEscape st) ∧ PTAt w' w.heap.size w'.heap.size q single (cEscape fo (seeOf g st)) ∧ Kept g.own w w' := by
  rw [show needSt g lEscape st = needSt g lMarks st by unfold needSt; rw [escape_sets, c1, c2, c3]; simp, show cEscape fo (seeOf g st) = cLeaf [(escRune (seeOf g st), escRune (seeOf g st))] fo false by unfold cEscape; rw [if_neg (by rw [c1]; simp), if_neg (by rw [c2]; simp), if_neg (by rw [c3]; simp)]]
  have hnown : ∀ i, w.heap.size ≤ i → ¬ g.own i := fun i hi hx => by have := hR.own_lt hx; omega
  have hsee : ∀ st : RS, -1 ≤ seeOf g st ∧ seeOf g st ≤ 1114111 := hR.see_range
  have ha := hR.nil ((Kept.refl Nil w).alloc (.cells zeroNv.cells 56))
  have b0 := Blk.new w zeroNv.cells 56
  have ka : Kept g.own w (w.alloc (.cells zeroNv.cells 56)) := (Kept.refl _ w).alloc _
  have s0 : (w.alloc (.cells zeroNv.cells 56)).heap.size = w.heap.size + 1 := size_alloc1 _ _
  have hrg := escRune_range (hsee st)
  generalize her : escRune (seeOf g st) = er at hrg ⊢
  have HER : Hid (escRune (seeOf g st) = er) := her
  clear her
  go_enter Tryz.func85, Tryz.ntmps85
  go_wp2_with fail
  refine (seeL ha).mono ?_
  rintro e w1 ⟨rfl, h1, hk1⟩
  go_wp2_with fail
  refine (takeN h1 _ lWordEdge (by rfl) (by decide) c1).mono ?_
  rintro e w2 ⟨rfl, h2, hk2⟩
  go_wp2_with fail
  refine (takeN h2 _ lSets (by rfl) (by decide) c2).mono ?_
  rintro e w3 ⟨rfl, h3, hk3⟩
  go_wp2_with fail
  refine (takeN h3 _ lOthers (by rfl) (by decide) c3).mono ?_
  rintro e w4 ⟨rfl, h4, hk4⟩
  go_wp2_with fail
  have kk := (((ka.trans hk1).trans hk2).trans hk3).trans hk4
  have b4 := (((b0.kept hk1 (hnown _ (Nat.le_refl _))).kept hk2 (hnown _ (Nat.le_refl _))).kept hk3 (hnown _ (Nat.le_refl _))).kept hk4 (hnown _ (Nat.le_refl _))
  refine (escaped_rd h4).mono ?_
  rintro e w5 ⟨rfl, h5, hk5⟩
  have kk5 := kk.trans hk5
  have b5 := b4.kept hk5 (hnown _ (Nat.le_refl _))
  rw [HER.out]
  go_wp2_with fail
  have hcl := lit_cells w5 er er
  have ba := b5.alloc (.cells #[.int .i32 er, .int .i32 er] 149)
  have kka := kk5.alloc (.cells #[.int .i32 er, .int .i32 er] 149)
  have sa := size_alloc1 w5 (.cells #[.int .i32 er, .int .i32 er] 149)
  have hlt8 : w.heap.size < w5.heap.size := b5.lt
  refine (anyOf_rd (l := [(er, er)]) (cap := 1) (h5.nil ((Kept.refl Nil w5).alloc (.cells #[.int .i32 er, .int .i32 er] 149))) false hcl (RuneSp.one hrg hrg) (by simp) (by simp) (by omega)).mono ?_
  rintro e wz ⟨q, rfl, hz, hpz, hkz⟩
  have bz := ba.kept hkz (hnown _ (Nat.le_refl _))
  have kz := kka.trans hkz
  obtain ⟨e0, e1, e2, e3, e4, e5, e6, e7⟩ := bz.eight
  obtain ⟨g0, g1, g2, g3, g4, g5, g6, g7⟩ := bz.thaw
  simp only [zeroNv] at e0 e1 e2 e3 e4 e5 e6 e7
  have hlt9 : w.heap.size < wz.heap.size := bz.lt
  simp only [Nv.val, Nv.cells]
  go_wp2_with fail
  have fin := node_close hR hz hpz (by omega) (Nat.le_refl _) kz
  have bfin := putNv_blk bz q
  simp only [putNv] at fin bfin
  refine node_ret (i := 2) (b := w.heap.size) (q := q) Tryz.results85 ?_ ?_ ?_ ?_
  · rfl
  · rfl
  · exact bfin
  · exact ⟨_, rfl, fin⟩

theorem escape_rd {w : World} {g : RG} {fo : Bool} {st : RS} (hR : RdAt w g fo st) :
    Calls Tryz.prog 85 #[.pointer (some ⟨g.b, 0, none⟩)] w fun e w' => ∃ q, e = .returned (Nv.val q) ∧ RdAt w' g fo (needSt g lEscape st) ∧ PTAt w' w.heap.size w'.heap.size q single (cEscape fo (seeOf g st)) ∧ Kept g.own w w' := by
  cases c1 : inSet lWordEdge (seeOf g st)
  · cases c2 : inSet lSets (seeOf g st)
    · cases c3 : inSet lOthers (seeOf g st)
      · exact escape_rune hR c1 c2 c3
      · exact escape_others hR c1 c2 c3
    · exact escape_set hR c1 c2
  · exact escape_edge hR c1
end Go.Proofs.YtnbfddjaonlmaaaGreatDoor
