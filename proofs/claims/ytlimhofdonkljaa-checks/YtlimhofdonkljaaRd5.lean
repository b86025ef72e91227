/- The reader of the program: bracket, atom, repeated. -/
import Derived.Test.YtlimhofdonkljaaPt
namespace Go.Proofs.Ytlimhofdonkljaa
open Go.RowKit Go.Maps
set_option linter.unusedVariables false

theorem RdAt.setGroups {w : World} {g : RG} {st : RS} (h : RdAt w g st) (m : Nat) (hm : m ≤ st.next) (hg : st.groups ≤ m) : RdAt (w.setCell ⟨g.b, 4, none⟩ (.int .i64 m)) g { st with groups := m } where
  blk := h.blk.setCell 4 _
  isSome := h.isSome
  runes i hi := by
    rw [World.cell?_of_block (w := w) (Below.heap_setCell w _ _ g.br (fun e => h.apart.1 e.symm))]; exact h.runes i hi
  places i hi := by
    rw [World.cell?_of_block (w := w) (Below.heap_setCell w _ _ g.bp (fun e => h.apart.2.1 e.symm))]; exact h.places i hi
  brlt := by have := h.brlt; simpa [World.setCell] using this
  bplt := by have := h.bplt; simpa [World.setCell] using this
  prange := h.prange
  fm := by obtain ⟨D, hD, hF⟩ := h.fm; exact ⟨D, hD.setCell (a := ⟨g.b, 4, none⟩) (fun e => h.apart.2.2.1 e.symm) _, hF⟩
  nm := by obtain ⟨D, hD, hF⟩ := h.nm; exact ⟨D, hD.setCell (a := ⟨g.b, 4, none⟩) (fun e => h.apart.2.2.2.1 e.symm) _, hF⟩
  len := h.len
  capr := h.capr
  next := h.next
  groups := hm
  names := by have := h.names; simp; omega
  apart := h.apart

theorem RdAt.use_lt {w : World} {g : RG} {st : RS} (h : RdAt w g st) {i : Nat} (hi : g.use i) : i < w.heap.size := by
  obtain ⟨D, hD, _⟩ := h.fm
  obtain ⟨D', hD', _⟩ := h.nm
  rcases hi with rfl | rfl | rfl | rfl | rfl
  · exact h.blt
  · exact hD.lt
  · exact hD'.lt
  · exact h.brlt
  · exact h.bplt
theorem RdAt.own_lt {w : World} {g : RG} {st : RS} (h : RdAt w g st) {i : Nat} (hi : g.own i) : i < w.heap.size := h.use_lt (by rcases hi with h | h | h <;> simp [RG.use, h])
/-- a new block, and what is written into blocks that are new since a world in which the reader lay -/
theorem RdAt.new {w0 w w' : World} {g : RG} {st st0 : RS} (h : RdAt w g st) (h0 : RdAt w0 g st0) {S : Nat → Prop} (k : Kept S w w') (hs : ∀ i, S i → w0.heap.size ≤ i) : RdAt w' g st :=
  h.kept k (fun i hi hx => by have := h0.use_lt hi; have := hs i hx; omega)

/-- 'alt' as its mirror says, at a reader with fewer than k runes to come -/
def AltOk (g : RG) (k : Nat) : Prop := ∀ (w : World) (st : RS), RdAt w g st → g.rs.length - st.next < k →
  Calls Try.prog 27 #[.pointer (some ⟨g.b, 0, none⟩)] w fun e w' => ∃ v, e = .returned v ∧ RdAt w' g (pAlt g k st).1 ∧ PTAt w' w.heap.size w'.heap.size v (pAlt g k st).2 ∧ Kept g.own w w'

theorem pHead_next (g : RG) (st : RS) (h : st.next ≤ g.rs.length) : st.next ≤ (pHead g st).next ∧ (pHead g st).next ≤ g.rs.length := by
  unfold pHead
  cases hq : inSet lQuery (seeOf g st)
  · simp; exact h
  · have h1 := seeOf_lt hq
    simp only [Bool.true_eq_false, if_false]
    cases hl : inSet lLess (seeOf g { st with next := st.next + 1 })
    · have h2 := takeOf_next g lI { st with next := st.next + 1 } (by simp; omega)
      have h3 := needSt_next g lColon _ h2.2
      simp at *; omega
    · have h2 := seeOf_lt hl
      simp only at h2
      have h3 := pName_next g { st with next := st.next + 2, groups := st.groups + 1 } (by simp; omega)
      simp at *; omega

/-- a node of one piece -/
theorem PTAt.wrap {w W : World} {lo hi lo0 hi0 b cap : Nat} {q : Quad} {T : PT} {S : Nat → Prop} {k l h : Int} (hp : PTAt w lo hi q.val T) (hhi : hi ≤ w.heap.size) (kk : Kept S w W) (hS : ∀ i, S i → i < lo ∨ hi ≤ i)
    (hb : Blk W b #[q.1, q.2.1, q.2.2.1, q.2.2.2] 53) (hlo : lo0 ≤ lo) (hhi0 : hi ≤ hi0) (hb0 : lo0 ≤ b ∧ b < hi0) (hr : (-1 ≤ l ∧ l ≤ 99) ∧ (-1 ≤ h ∧ h ≤ 99) ∧ (k = 0 ∨ k = 1 ∨ k = 2 ∨ k = 3 ∨ k = 4)) :
    PTAt W lo0 hi0 (.agg #[.int .i64 k, .slice (some ⟨b, 0, none⟩) 1 cap, .int .i64 l, .int .i64 h]) (.node k [T] l h) := by
  refine PTAt.mk k l h _ cap b [T] (fun _ => q) (fun _ => ⟨rfl, hb0.1, hb0.2⟩) (fun i hi' => ?_) (fun i hi' => ?_) ⟨hr.1, hr.2.1, by simp, by rcases hr.2.2 with h | h | h | h | h <;> simp [h]⟩
  · have e : i = 0 := by simp at hi'; omega
    subst e
    exact ⟨hb.cell 0, hb.cell 1, hb.cell 2, hb.cell 3⟩
  · have e : i = 0 := by simp at hi'; omega
    subst e
    exact (hp.kept kk (fun j h1 h2 hx => by rcases hS j hx with h3 | h3 <;> omega) hhi).widen hlo hhi0

def setQuad (w : World) (b : Nat) (q : Quad) : World := (((w.setCell ⟨b, 0, none⟩ q.1).setCell ⟨b, 1, none⟩ q.2.1).setCell ⟨b, 2, none⟩ q.2.2.1).setCell ⟨b, 3, none⟩ q.2.2.2
theorem setQuad_kept (w : World) (b : Nat) (q : Quad) : Kept (fun i => i = b) w (setQuad w b q) :=
  ((((Kept.refl (fun i => i = b) w).setCell (p := ⟨b, 0, none⟩) (Or.inl rfl) q.1).setCell (p := ⟨b, 1, none⟩) (Or.inl rfl) q.2.1).setCell (p := ⟨b, 2, none⟩) (Or.inl rfl) q.2.2.1).setCell (p := ⟨b, 3, none⟩) (Or.inl rfl) q.2.2.2
theorem setQuad_size (w : World) (b : Nat) (q : Quad) : (setQuad w b q).heap.size = w.heap.size := by simp [setQuad, World.setCell]
theorem setQuad_blk {w : World} {b : Nat} {cs : Array Value} {t : TypeId} (h : Blk w b cs t) (hc : cs.size = 4) (q : Quad) : Blk (setQuad w b q) b #[q.1, q.2.1, q.2.2.1, q.2.2.2] t := by
  have := (((h.setCell 0 q.1).setCell 1 q.2.1).setCell 2 q.2.2.1).setCell 3 q.2.2.2
  match cs, hc, this with
  | ⟨[a0, a1, a2, a3]⟩, _, this => exact this

def zeroQuad : Quad := (.int .i64 0, .slice none 0 0, .int .i64 0, .int .i64 0)

/-- the way out of a function whose result is a node that lies in block b -/
theorem node_ret {f : Func} {Q : Ending → World → Prop} {a : Act} {W : World} {b i : Nat} {q : Quad} (hres : f.results = #[ResultVar.cell i 53]) (hslot : a.tmps.getD i undef = .pointer (some ⟨b, 0, none⟩)) (hd : a.defers = [])
    (hb : Blk W b #[q.1, q.2.1, q.2.2.1, q.2.2.2] 53) (hQ : Q (.returned q.val) W) : bodyPost Try.prog f Q Exit.ret a W := by
  have r0 : W.cell? ⟨b, 0, none⟩ = some q.1 := hb.cell 0
  have r1 : W.cell? ⟨b, 1, none⟩ = some q.2.1 := hb.cell 1
  have r2 : W.cell? ⟨b, 2, none⟩ = some q.2.2.1 := hb.cell 2
  have r3 : W.cell? ⟨b, 3, none⟩ = some q.2.2.2 := hb.cell 3
  have hs2 : a.tmps[i]?.getD undef = .pointer (some ⟨b, 0, none⟩) := by simpa using hslot
  exact bodyPost_ret (v := q.val) (by simp [results, hres, go_sem, hs2, r0, r1, r2, r3, Quad.val]) hd hQ

/-- what a bracket leaves -/
theorem bracket_close {w w1 w2 w3 : World} {g : RG} {st st' : RS} {q : Quad} {T : PT} (h : RdAt w g st) (h3 : RdAt w3 g st') (hw1 : w.heap.size < w1.heap.size)
    (hp : PTAt w2 w1.heap.size w2.heap.size q.val T) (k1 : Kept g.own w w2) (k2 : Kept g.own w2 w3) :
    RdAt ((setQuad w3 w.heap.size (.int .i64 1, .slice (some ⟨w3.heap.size, 0, none⟩) 1 1, .int .i64 0, .int .i64 0)).alloc (.cells #[q.1, q.2.1, q.2.2.1, q.2.2.2] 53)) g st' ∧
    PTAt ((setQuad w3 w.heap.size (.int .i64 1, .slice (some ⟨w3.heap.size, 0, none⟩) 1 1, .int .i64 0, .int .i64 0)).alloc (.cells #[q.1, q.2.1, q.2.2.1, q.2.2.2] 53)) w.heap.size
      ((setQuad w3 w.heap.size (.int .i64 1, .slice (some ⟨w3.heap.size, 0, none⟩) 1 1, .int .i64 0, .int .i64 0)).alloc (.cells #[q.1, q.2.1, q.2.2.1, q.2.2.2] 53)).heap.size
      (.agg #[.int .i64 1, .slice (some ⟨w3.heap.size, 0, none⟩) 1 1, .int .i64 0, .int .i64 0]) (.node 1 [T] 0 0) ∧
    Kept g.own w ((setQuad w3 w.heap.size (.int .i64 1, .slice (some ⟨w3.heap.size, 0, none⟩) 1 1, .int .i64 0, .int .i64 0)).alloc (.cells #[q.1, q.2.1, q.2.2.1, q.2.2.2] 53)) := by
  generalize hQ : ((.int .i64 1, .slice (some ⟨w3.heap.size, 0, none⟩) 1 1, .int .i64 0, .int .i64 0) : Quad) = Q
  have sz := setQuad_size w3 w.heap.size Q
  have kq := (setQuad_kept w3 w.heap.size Q).alloc (.cells #[q.1, q.2.1, q.2.2.1, q.2.2.2] 53)
  have bq := Blk.new (setQuad w3 w.heap.size Q) #[q.1, q.2.1, q.2.2.1, q.2.2.2] 53
  rw [sz] at bq
  have s23 := k2.size
  have s12 := k1.size
  refine ⟨h3.new h kq (fun i hi => by omega), ?_, (k1.trans k2).trans' kq (fun i hi he => by omega)⟩
  refine PTAt.wrap (S := fun i => g.own i ∨ i = w.heap.size) (q := q) hp (Nat.le_refl _) ((k2.mono (fun i hi => Or.inl hi)).trans (kq.mono (fun i hi => Or.inr hi))) (fun i hi => ?_) bq (by omega) (by simp; omega) ⟨by omega, by simp; omega⟩ (by omega)
  rcases hi with hi | hi
  · have := h.own_lt hi; omega
  · omega

theorem bracket_plain {w : World} {g : RG} {st : RS} {k : Nat} (hA : AltOk g k) (h : RdAt w g st) (hg : st.groups < st.next) (hrem : g.rs.length - st.next < k) (hq : inSet lQuery (seeOf g st) = false) :
    Calls Try.prog 57 #[.pointer (some ⟨g.b, 0, none⟩)] w fun e w' => ∃ v, e = .returned v ∧ RdAt w' g (pBracket g (pAlt g k) st).1 ∧ PTAt w' w.heap.size w'.heap.size v (pBracket g (pAlt g k) st).2 ∧ Kept g.own w w' := by
  have hph := pHead_next g st h.next
  unfold pBracket
  have hl := h.len
  have hnl := h.next
  rw [show pHead g st = { st with groups := st.groups + 1 } from by simp [pHead, hq]] at hph ⊢
  go_enter Try.func57, Try.ntmps57
  go_wp2_with fail
  have ha : RdAt (w.alloc (.cells #[.int .i64 0, .slice none 0 0, .int .i64 0, .int .i64 0] 53)) g st := h.nil ((Kept.refl _ _).alloc _)
  have hka : Kept g.own w (w.alloc (.cells #[.int .i64 0, .slice none 0 0, .int .i64 0, .int .i64 0] 53)) := (Kept.refl _ _).alloc _
  refine (takeN ha _ lQuery (by rfl) (by decide) hq).mono ?_
  rintro e w1 ⟨rfl, h1, hk1⟩
  have c4 : w1.cell? ⟨g.b, 4, none⟩ = some (.int .i64 st.groups) := h1.blk.cell 4
  have f4 : w1.frozen? ⟨g.b, 4, none⟩ = false := h1.blk.frozen 4
  go_wp2_with fail
  have h2 := h1.setGroups (st.groups + 1) (by omega) (by omega)
  rw [show ((st.groups + 1 : Nat) : Int) = (st.groups : Int) + 1 from by omega] at h2
  refine (hA _ _ h2 hrem).mono ?_
  rintro e w2 ⟨v, rfl, h3, hp, hk2⟩
  clear c4 f4
  have kw1 := hk1.trans (own_setCell (w := w1) g 4 (.int .i64 ((st.groups : Int) + 1)))
  obtain ⟨k', ao, n, cap, l, hh2, hv⟩ := hp.quad
  rw [hv] at hp ⊢
  clear hv
  go_wp2_with fail
  refine (needL (h3.nil ((Kept.refl _ _).alloc _)) _ lRound (by rfl) (by decide)).mono ?_
  rintro e w3 ⟨rfl, h5, hk3⟩
  have b3 := (Blk.new w2 #[.int .i64 k', .slice ao n cap, .int .i64 l, .int .i64 hh2] 53).kept hk3 (fun hx => by have := h3.own_lt hx; omega)
  have kall : Kept g.own (w.alloc (.cells #[.int .i64 0, .slice none 0 0, .int .i64 0, .int .i64 0] 53)) w3 := ((kw1.trans hk2).alloc _).trans hk3
  have b2 := (Blk.new w #[.int .i64 0, .slice none 0 0, .int .i64 0, .int .i64 0] 53).kept kall (fun hx => by have := h.own_lt hx; omega)
  have d0 : w3.cell? ⟨w2.heap.size, 0, none⟩ = some (.int .i64 k') := b3.cell 0
  have d1 : w3.cell? ⟨w2.heap.size, 1, none⟩ = some (.slice ao n cap) := b3.cell 1
  have d2 : w3.cell? ⟨w2.heap.size, 2, none⟩ = some (.int .i64 l) := b3.cell 2
  have d3 : w3.cell? ⟨w2.heap.size, 3, none⟩ = some (.int .i64 hh2) := b3.cell 3
  have e0 : w3.cell? ⟨w.heap.size, 0, none⟩ = some (.int .i64 0) := b2.cell 0
  have e1 : w3.cell? ⟨w.heap.size, 1, none⟩ = some (.slice none 0 0) := b2.cell 1
  have e2 : w3.cell? ⟨w.heap.size, 2, none⟩ = some (.int .i64 0) := b2.cell 2
  have e3 : w3.cell? ⟨w.heap.size, 3, none⟩ = some (.int .i64 0) := b2.cell 3
  have g0 : w3.frozen? ⟨w.heap.size, 0, none⟩ = false := b2.frozen 0
  have g1 : w3.frozen? ⟨w.heap.size, 1, none⟩ = false := b2.frozen 1
  have g2 : w3.frozen? ⟨w.heap.size, 2, none⟩ = false := b2.frozen 2
  have g3 : w3.frozen? ⟨w.heap.size, 3, none⟩ = false := b2.frozen 3
  have hlt : w.heap.size < w3.heap.size := b2.lt
  go_wp2_with fail
  have hsz1 := kw1.size
  have fin := bracket_close (w1 := w1.setCell ⟨g.b, 4, none⟩ (.int .i64 ((st.groups : Int) + 1))) (q := (.int .i64 k', .slice ao n cap, .int .i64 l, .int .i64 hh2)) h h5 (by simp at hsz1 ⊢; omega) hp ((hka.trans kw1).trans hk2) (((Kept.refl _ _).alloc _).trans hk3)
  have bfin := (setQuad_blk b2 rfl (.int .i64 1, .slice (some ⟨w3.heap.size, 0, none⟩) 1 1, .int .i64 0, .int .i64 0)).alloc (.cells #[.int .i64 k', .slice ao n cap, .int .i64 l, .int .i64 hh2] 53)
  simp only [setQuad] at fin bfin
  refine node_ret (i := 2) (b := w.heap.size) (q := (.int .i64 1, .slice (some ⟨w3.heap.size, 0, none⟩) 1 1, .int .i64 0, .int .i64 0)) Try.results57 ?_ ?_ ?_ ?_
  · rfl
  · rfl
  · exact bfin
  · exact ⟨_, rfl, fin⟩

theorem bracket_named {w : World} {g : RG} {st : RS} {k : Nat} (hA : AltOk g k) (h : RdAt w g st) (hg : st.groups < st.next) (hrem : g.rs.length - st.next < k) (hq : inSet lQuery (seeOf g st) = true) (hs : inSet lLess (seeOf g { st with next := st.next + 1 }) = true) :
    Calls Try.prog 57 #[.pointer (some ⟨g.b, 0, none⟩)] w fun e w' => ∃ v, e = .returned v ∧ RdAt w' g (pBracket g (pAlt g k) st).1 ∧ PTAt w' w.heap.size w'.heap.size v (pBracket g (pAlt g k) st).2 ∧ Kept g.own w w' := by
  have hph := pHead_next g st h.next
  unfold pBracket
  have hl := h.len
  have hnl := h.next
  have hq1 := seeOf_lt hq
  have hq2 := seeOf_lt hs
  simp only at hq2
  rw [show pHead g st = pName g { st with next := st.next + 2, groups := st.groups + 1 } from by simp [pHead, hq, hs]] at hph ⊢
  go_enter Try.func57, Try.ntmps57
  go_wp2_with fail
  have ha : RdAt (w.alloc (.cells #[.int .i64 0, .slice none 0 0, .int .i64 0, .int .i64 0] 53)) g st := h.nil ((Kept.refl _ _).alloc _)
  have hka : Kept g.own w (w.alloc (.cells #[.int .i64 0, .slice none 0 0, .int .i64 0, .int .i64 0] 53)) := (Kept.refl _ _).alloc _
  refine (takeY ha _ lQuery (by rfl) (by decide) hq).mono ?_
  rintro e w1 ⟨rfl, h1, hk1⟩
  go_wp2_with fail
  refine (takeY h1 _ lLess (by rfl) (by decide) hs).mono ?_
  rintro e w4 ⟨rfl, h4, hk4⟩
  have c4 : w4.cell? ⟨g.b, 4, none⟩ = some (.int .i64 st.groups) := h4.blk.cell 4
  have f4 : w4.frozen? ⟨g.b, 4, none⟩ = false := h4.blk.frozen 4
  go_wp2_with fail
  have h2 := h4.setGroups (st.groups + 1) (by simp; omega) (by simp)
  rw [show ((st.groups + 1 : Nat) : Int) = (st.groups : Int) + 1 from by omega] at h2
  change RdAt _ g { st with next := st.next + 2, groups := st.groups + 1 } at h2
  refine (name_rd h2 (by omega) (by have := h.names; simp; omega)).mono ?_
  rintro e w6 ⟨rfl, h6, hk6⟩
  clear c4 f4
  go_wp2_with fail
  refine (hA _ _ h6 (by omega)).mono ?_
  rintro e w2 ⟨v, rfl, h3, hp, hk2⟩
  have kw1 := ((hk1.trans hk4).trans (own_setCell (w := w4) g 4 (.int .i64 ((st.groups : Int) + 1)))).trans hk6
  obtain ⟨k', ao, n, cap, l, hh2, hv⟩ := hp.quad
  rw [hv] at hp ⊢
  clear hv
  go_wp2_with fail
  refine (needL (h3.nil ((Kept.refl _ _).alloc _)) _ lRound (by rfl) (by decide)).mono ?_
  rintro e w3 ⟨rfl, h5, hk3⟩
  have b3 := (Blk.new w2 #[.int .i64 k', .slice ao n cap, .int .i64 l, .int .i64 hh2] 53).kept hk3 (fun hx => by have := h3.own_lt hx; omega)
  have kall : Kept g.own (w.alloc (.cells #[.int .i64 0, .slice none 0 0, .int .i64 0, .int .i64 0] 53)) w3 := ((kw1.trans hk2).alloc _).trans hk3
  have b2 := (Blk.new w #[.int .i64 0, .slice none 0 0, .int .i64 0, .int .i64 0] 53).kept kall (fun hx => by have := h.own_lt hx; omega)
  have d0 : w3.cell? ⟨w2.heap.size, 0, none⟩ = some (.int .i64 k') := b3.cell 0
  have d1 : w3.cell? ⟨w2.heap.size, 1, none⟩ = some (.slice ao n cap) := b3.cell 1
  have d2 : w3.cell? ⟨w2.heap.size, 2, none⟩ = some (.int .i64 l) := b3.cell 2
  have d3 : w3.cell? ⟨w2.heap.size, 3, none⟩ = some (.int .i64 hh2) := b3.cell 3
  have e0 : w3.cell? ⟨w.heap.size, 0, none⟩ = some (.int .i64 0) := b2.cell 0
  have e1 : w3.cell? ⟨w.heap.size, 1, none⟩ = some (.slice none 0 0) := b2.cell 1
  have e2 : w3.cell? ⟨w.heap.size, 2, none⟩ = some (.int .i64 0) := b2.cell 2
  have e3 : w3.cell? ⟨w.heap.size, 3, none⟩ = some (.int .i64 0) := b2.cell 3
  have g0 : w3.frozen? ⟨w.heap.size, 0, none⟩ = false := b2.frozen 0
  have g1 : w3.frozen? ⟨w.heap.size, 1, none⟩ = false := b2.frozen 1
  have g2 : w3.frozen? ⟨w.heap.size, 2, none⟩ = false := b2.frozen 2
  have g3 : w3.frozen? ⟨w.heap.size, 3, none⟩ = false := b2.frozen 3
  have hlt : w.heap.size < w3.heap.size := b2.lt
  go_wp2_with fail
  have hsz1 := kw1.size
  have fin := bracket_close (w1 := w6) (q := (.int .i64 k', .slice ao n cap, .int .i64 l, .int .i64 hh2)) h h5 (by simp at hsz1 ⊢; omega) hp ((hka.trans kw1).trans hk2) (((Kept.refl _ _).alloc _).trans hk3)
  have bfin := (setQuad_blk b2 rfl (.int .i64 1, .slice (some ⟨w3.heap.size, 0, none⟩) 1 1, .int .i64 0, .int .i64 0)).alloc (.cells #[.int .i64 k', .slice ao n cap, .int .i64 l, .int .i64 hh2] 53)
  simp only [setQuad] at fin bfin
  refine node_ret (i := 2) (b := w.heap.size) (q := (.int .i64 1, .slice (some ⟨w3.heap.size, 0, none⟩) 1 1, .int .i64 0, .int .i64 0)) Try.results57 ?_ ?_ ?_ ?_
  · rfl
  · rfl
  · exact bfin
  · exact ⟨_, rfl, fin⟩

theorem bracket_other {w : World} {g : RG} {st : RS} {k : Nat} (hA : AltOk g k) (h : RdAt w g st) (hg : st.groups < st.next) (hrem : g.rs.length - st.next < k) (hq : inSet lQuery (seeOf g st) = true) (hs : inSet lLess (seeOf g { st with next := st.next + 1 }) = false) :
    Calls Try.prog 57 #[.pointer (some ⟨g.b, 0, none⟩)] w fun e w' => ∃ v, e = .returned v ∧ RdAt w' g (pBracket g (pAlt g k) st).1 ∧ PTAt w' w.heap.size w'.heap.size v (pBracket g (pAlt g k) st).2 ∧ Kept g.own w w' := by
  have hph := pHead_next g st h.next
  unfold pBracket
  have hl := h.len
  have hnl := h.next
  rw [show pHead g st = needSt g lColon (takeOf g lI { st with next := st.next + 1 }) from by simp [pHead, hq, hs]] at hph ⊢
  go_enter Try.func57, Try.ntmps57
  go_wp2_with fail
  have ha : RdAt (w.alloc (.cells #[.int .i64 0, .slice none 0 0, .int .i64 0, .int .i64 0] 53)) g st := h.nil ((Kept.refl _ _).alloc _)
  have hka : Kept g.own w (w.alloc (.cells #[.int .i64 0, .slice none 0 0, .int .i64 0, .int .i64 0] 53)) := (Kept.refl _ _).alloc _
  refine (takeY ha _ lQuery (by rfl) (by decide) hq).mono ?_
  rintro e w1 ⟨rfl, h1, hk1⟩
  go_wp2_with fail
  refine (takeN h1 _ lLess (by rfl) (by decide) hs).mono ?_
  rintro e w4 ⟨rfl, h4, hk4⟩
  go_wp2_with fail
  refine (takeL h4 _ lI (by rfl) (by decide)).mono ?_
  rintro e w5 ⟨rfl, h5', hk5⟩
  go_wp2_with fail
  refine (needL h5' _ lColon (by rfl) (by decide)).mono ?_
  rintro e w6 ⟨rfl, h6, hk6⟩
  go_wp2_with fail
  refine (hA _ _ h6 (by omega)).mono ?_
  rintro e w2 ⟨v, rfl, h3, hp, hk2⟩
  have kw1 := ((hk1.trans hk4).trans hk5).trans hk6
  obtain ⟨k', ao, n, cap, l, hh2, hv⟩ := hp.quad
  rw [hv] at hp ⊢
  clear hv
  go_wp2_with fail
  refine (needL (h3.nil ((Kept.refl _ _).alloc _)) _ lRound (by rfl) (by decide)).mono ?_
  rintro e w3 ⟨rfl, h5, hk3⟩
  have b3 := (Blk.new w2 #[.int .i64 k', .slice ao n cap, .int .i64 l, .int .i64 hh2] 53).kept hk3 (fun hx => by have := h3.own_lt hx; omega)
  have kall : Kept g.own (w.alloc (.cells #[.int .i64 0, .slice none 0 0, .int .i64 0, .int .i64 0] 53)) w3 := ((kw1.trans hk2).alloc _).trans hk3
  have b2 := (Blk.new w #[.int .i64 0, .slice none 0 0, .int .i64 0, .int .i64 0] 53).kept kall (fun hx => by have := h.own_lt hx; omega)
  have d0 : w3.cell? ⟨w2.heap.size, 0, none⟩ = some (.int .i64 k') := b3.cell 0
  have d1 : w3.cell? ⟨w2.heap.size, 1, none⟩ = some (.slice ao n cap) := b3.cell 1
  have d2 : w3.cell? ⟨w2.heap.size, 2, none⟩ = some (.int .i64 l) := b3.cell 2
  have d3 : w3.cell? ⟨w2.heap.size, 3, none⟩ = some (.int .i64 hh2) := b3.cell 3
  have e0 : w3.cell? ⟨w.heap.size, 0, none⟩ = some (.int .i64 0) := b2.cell 0
  have e1 : w3.cell? ⟨w.heap.size, 1, none⟩ = some (.slice none 0 0) := b2.cell 1
  have e2 : w3.cell? ⟨w.heap.size, 2, none⟩ = some (.int .i64 0) := b2.cell 2
  have e3 : w3.cell? ⟨w.heap.size, 3, none⟩ = some (.int .i64 0) := b2.cell 3
  have g0 : w3.frozen? ⟨w.heap.size, 0, none⟩ = false := b2.frozen 0
  have g1 : w3.frozen? ⟨w.heap.size, 1, none⟩ = false := b2.frozen 1
  have g2 : w3.frozen? ⟨w.heap.size, 2, none⟩ = false := b2.frozen 2
  have g3 : w3.frozen? ⟨w.heap.size, 3, none⟩ = false := b2.frozen 3
  have hlt : w.heap.size < w3.heap.size := b2.lt
  go_wp2_with fail
  have hsz1 := kw1.size
  have fin := bracket_close (w1 := w6) (q := (.int .i64 k', .slice ao n cap, .int .i64 l, .int .i64 hh2)) h h5 (by simp at hsz1 ⊢; omega) hp ((hka.trans kw1).trans hk2) (((Kept.refl _ _).alloc _).trans hk3)
  have bfin := (setQuad_blk b2 rfl (.int .i64 1, .slice (some ⟨w3.heap.size, 0, none⟩) 1 1, .int .i64 0, .int .i64 0)).alloc (.cells #[.int .i64 k', .slice ao n cap, .int .i64 l, .int .i64 hh2] 53)
  simp only [setQuad] at fin bfin
  refine node_ret (i := 2) (b := w.heap.size) (q := (.int .i64 1, .slice (some ⟨w3.heap.size, 0, none⟩) 1 1, .int .i64 0, .int .i64 0)) Try.results57 ?_ ?_ ?_ ?_
  · rfl
  · rfl
  · exact bfin
  · exact ⟨_, rfl, fin⟩


theorem bracket_rd {w : World} {g : RG} {st : RS} {k : Nat} (hA : AltOk g k) (h : RdAt w g st) (hg : st.groups < st.next) (hrem : g.rs.length - st.next < k) :
    Calls Try.prog 57 #[.pointer (some ⟨g.b, 0, none⟩)] w fun e w' => ∃ v, e = .returned v ∧ RdAt w' g (pBracket g (pAlt g k) st).1 ∧ PTAt w' w.heap.size w'.heap.size v (pBracket g (pAlt g k) st).2 ∧ Kept g.own w w' := by
  cases hq : inSet lQuery (seeOf g st)
  · exact bracket_plain hA h hg hrem hq
  · cases hs : inSet lLess (seeOf g { st with next := st.next + 1 })
    · exact bracket_other hA h hg hrem hq hs
    · exact bracket_named hA h hg hrem hq hs
end Go.Proofs.Ytlimhofdonkljaa
