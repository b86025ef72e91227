/- The reference's tree in memory, and its small calls: at, behind. The tree reads a pattern whose form is right: it is held against the program's mirror (Pm) where that refuses nothing. -/
import Derived.Test.YtagehbmipookbaaGreatDoorFm
import Derived.Test.YtagehbmipookbaaGreatDoorPm
import Derived.Test.YtagehbmipookbaaGreatDoorRd10
namespace Go.Proofs.YtagehbmipookbaaGreatDoor
open Go.RowKit
set_option linter.unusedVariables false
set_option maxRecDepth 100000

/-- where a tree lies -/
structure TG where
  b : Nat
  bl : Nat
  ao : Option Addr
  cap : Nat
  l : List (Nat × Int)

def orNeg (o : Option Int) : Int := o.getD (-1)

/-- the names of the groups, by number, and what the program has kept of them -/
def NRel (st : RS) (nl : List (List UInt8)) : Prop := nl.length = st.groups ∧ (∀ x, x ≠ [] → st.names.any (fun p => p.1 == x) = nl.any (fun y => y == x)) ∧ (∀ p, p ∈ st.names → p.1 ≠ []) ∧ (st.flt.nam = none → ∀ x i, x ≠ [] → ((x, i) ∈ st.names ↔ ∃ j, i = j + 1 ∧ nl[j]? = some x))

structure TrAt (w : World) (t : TG) (g : RG) (st : RS) (fold : Int) (vn : Value) (nl : List (List UInt8)) : Prop where
  blk : Blk w t.b #[.slice t.ao t.l.length t.cap, .int .i64 st.next, .int .i64 fold, vn, .int .i64 (orNeg st.flt.rep), .int .i64 (orNeg st.flt.cls), .int .i64 (orNeg st.flt.nam)] 50
  gl : GlAt w 0 t.bl t.ao t.l
  ne : t.l ≠ [] → t.bl ≠ t.b
  bl : t.l ≠ [] → t.bl < t.b
  rs : g.rs = t.l.map (·.2)
  ps : ∀ i, (h : i < t.l.length) → g.ps.getD i 0 = t.l[i].1
  len : t.l.length ≤ 300
  next : st.next ≤ t.l.length
  names : w.ownsRow (t.b + 1) 9 1 vn nl.length (nl.map fun x => .string ⟨x.toArray⟩)
  nrel : NRel st nl
  groups : st.groups ≤ st.next
  fold0 : 0 ≤ fold ∧ fold ≤ st.next
  pr : ∀ i, 0 ≤ g.ps.getD i 0 ∧ g.ps.getD i 0 ≤ 300
  fok : (∀ p, st.flt.rep = some p → 0 ≤ p) ∧ (∀ p, st.flt.cls = some p → 0 ≤ p) ∧ (∀ p, st.flt.nam = some p → 0 ≤ p)

theorem TrAt.lenr {w : World} {t : TG} {g : RG} {st : RS} {fold : Int} {vn : Value} {nl : List (List UInt8)} (h : TrAt w t g st fold vn nl) : g.rs.length = t.l.length := by rw [h.rs]; simp
theorem TrAt.see {w : World} {t : TG} {g : RG} {st : RS} {fold : Int} {vn : Value} {nl : List (List UInt8)} (h : TrAt w t g st fold vn nl) (hlt : st.next < t.l.length) : seeOf g st = t.l[st.next].2 := by
  unfold seeOf
  rw [h.rs]
  simp [List.getD, List.getElem?_eq_getElem hlt]
theorem TrAt.blt {w : World} {t : TG} {g : RG} {st : RS} {fold : Int} {vn : Value} {nl : List (List UInt8)} (h : TrAt w t g st fold vn nl) : t.b < w.heap.size := h.blk.lt

/-- the blocks that the tree uses: its own, its runes', its names' -/
def TG.use (t : TG) (vn : Value) : Nat → Prop := fun k => k = t.b ∨ (t.l ≠ [] ∧ k = t.bl) ∨ vn.ownBlock = some k

theorem TrAt.kept {w w' : World} {t : TG} {g : RG} {st : RS} {fold : Int} {vn : Value} {nl : List (List UInt8)} {S : Nat → Prop} (h : TrAt w t g st fold vn nl) (k : Kept S w w') (hs : ∀ i, t.use vn i → ¬ S i) : TrAt w' t g st fold vn nl :=
  { h with
    blk := h.blk.kept k (hs _ (Or.inl rfl))
    gl := h.gl.kept k (fun hl => hs _ (Or.inr (Or.inl ⟨hl, rfl⟩)))
    names := ownsRow_kept h.names k (fun b hb => hs _ (Or.inr (Or.inr hb))) }
theorem TrAt.nil {w w' : World} {t : TG} {g : RG} {st : RS} {fold : Int} {vn : Value} {nl : List (List UInt8)} (h : TrAt w t g st fold vn nl) (k : Kept Nil w w') : TrAt w' t g st fold vn nl := h.kept k (fun _ _ hx => hx)
theorem TrAt.use_lt {w : World} {t : TG} {g : RG} {st : RS} {fold : Int} {vn : Value} {nl : List (List UInt8)} (h : TrAt w t g st fold vn nl) {i : Nat} (hi : t.use vn i) : i < w.heap.size := by
  rcases hi with rfl | ⟨hl, rfl⟩ | hb
  · exact h.blt
  · exact (h.gl.isSome hl).2.2
  · exact (ownsRow_block h.names hb).2

theorem TrAt.setNext {w : World} {t : TG} {g : RG} {st : RS} {fold : Int} {vn : Value} {nl : List (List UInt8)} (h : TrAt w t g st fold vn nl) (m : Nat) (hm : m ≤ t.l.length) (hg : st.next ≤ m) : TrAt (w.setCell ⟨t.b, 1, none⟩ (.int .i64 m)) t g { st with next := m } fold vn nl := by
  have k : Kept (fun i => i = t.b) w (w.setCell ⟨t.b, 1, none⟩ (.int .i64 m)) := (Kept.refl (fun i => i = t.b) w).setCell (p := ⟨t.b, 1, none⟩) (Or.inl rfl) _
  exact { h with
    blk := h.blk.setCell 1 _
    gl := h.gl.kept k (fun hl => h.ne hl)
    names := ownsRow_kept h.names k (fun b hb he => by have := (ownsRow_block h.names hb).1; omega)
    next := hm
    nrel := h.nrel
    groups := by have := h.groups; simp; omega
    fold0 := by have := h.fold0; simp; omega
    fok := h.fok }

theorem own1 {w : World} {t : TG} (i : Nat) (v : Value) : Kept (fun j => j = t.b) w (w.setCell ⟨t.b, i, none⟩ v) := (Kept.refl (fun j => j = t.b) w).setCell (p := ⟨t.b, i, none⟩) (Or.inl rfl) v

theorem at_tr {w : World} {t : TG} {g : RG} {st : RS} {fold : Int} {vn : Value} {nl : List (List UInt8)} (h : TrAt w t g st fold vn nl) :
    Calls Tryz.prog 23 #[.pointer (some ⟨t.b, 0, none⟩)] w fun e w' => e = .returned (.int .i64 (seeOf g st)) ∧ Kept Nil w w' := by
  have c0 : w.cell? ⟨t.b, 0, none⟩ = some (.slice t.ao t.l.length t.cap) := h.blk.cell 0
  have c1 : w.cell? ⟨t.b, 1, none⟩ = some (.int .i64 st.next) := h.blk.cell 1
  have hl := h.len
  have hlr := h.lenr
  by_cases hlt : st.next < t.l.length
  · have hI : (st.next : Int) < (t.l.length : Int) := by omega
    obtain ⟨hao, _, _⟩ := h.gl.isSome (by intro e; rw [e] at hlt; simp at hlt)
    rw [hao] at c0
    have q0 := (h.gl.cells st.next hlt).1
    rw [← h.see hlt] at q0
    clear h hao
    go_enter Tryz.func23, Tryz.ntmps23
    go_wp2
    go_region
    all_goals go_wp2
    all_goals go_region
    all_goals go_wp2
    all_goals go_ret
    all_goals exact ⟨rfl, (Kept.refl _ _).drew.drew⟩
  · have hI : ¬ (st.next : Int) < (t.l.length : Int) := by omega
    have hs : seeOf g st = -1 := seeOf_end (by omega)
    rw [hs]
    clear h hs
    go_enter Tryz.func23, Tryz.ntmps23
    go_wp2
    go_region
    all_goals go_wp2
    all_goals go_ret
    all_goals exact ⟨rfl, (Kept.refl _ _).drew⟩

theorem behind_tr {w : World} {t : TG} {g : RG} {st : RS} {fold : Int} {vn : Value} {nl : List (List UInt8)} (h : TrAt w t g st fold vn nl) :
    Calls Tryz.prog 49 #[.pointer (some ⟨t.b, 0, none⟩)] w fun e w' => e = .returned (.int .i64 (seeOf g { st with next := st.next + 1 })) ∧ Kept Nil w w' := by
  have c0 : w.cell? ⟨t.b, 0, none⟩ = some (.slice t.ao t.l.length t.cap) := h.blk.cell 0
  have c1 : w.cell? ⟨t.b, 1, none⟩ = some (.int .i64 st.next) := h.blk.cell 1
  have hl := h.len
  have hlr := h.lenr
  have hnx := h.next
  by_cases hlt : st.next + 1 < t.l.length
  · have hI : (st.next : Int) + 1 < (t.l.length : Int) := by omega
    obtain ⟨hao, _, _⟩ := h.gl.isSome (by intro e; rw [e] at hlt; simp at hlt)
    rw [hao] at c0
    have q0 := (h.gl.cells (st.next + 1) hlt).1
    have hs : seeOf g { st with next := st.next + 1 } = t.l[st.next + 1].2 := by
      unfold seeOf
      rw [h.rs]
      simp [List.getD, List.getElem?_eq_getElem hlt]
    rw [← hs] at q0
    clear h hao hs
    go_enter Tryz.func49, Tryz.ntmps49
    go_wp2
    go_region
    all_goals go_wp2
    all_goals go_region
    all_goals go_wp2
    all_goals go_ret
    all_goals exact ⟨rfl, (Kept.refl _ _).drew.drew⟩
  · have hI : ¬ (st.next : Int) + 1 < (t.l.length : Int) := by omega
    have hs : seeOf g { st with next := st.next + 1 } = -1 := seeOf_end (by simp; omega)
    rw [hs]
    clear h hs
    go_enter Tryz.func49, Tryz.ntmps49
    go_wp2
    go_region
    all_goals go_wp2
    all_goals go_ret
    all_goals exact ⟨rfl, (Kept.refl _ _).drew⟩

/-! ## where nothing is refused -/
theorem refuse_form (g : RG) (st : RS) : (refuseOf g st).flt.form ≠ none := by
  unfold refuseOf RS.note Flt.note
  cases h : st.flt.form with
  | none => simp [Flt.get, h, Flt.put]
  | some p => simp [Flt.get, h]
theorem needSt_form {g : RG} {l : List UInt8} {st : RS} (h : (needSt g l st).flt.form = none) : inSet l (seeOf g st) = true ∧ st.flt.form = none ∧ needSt g l st = { st with next := st.next + 1 } := by
  unfold needSt at h ⊢
  cases hc : inSet l (seeOf g st)
  · rw [hc] at h; exact absurd h (refuse_form g st)
  · rw [hc] at h; exact ⟨rfl, h, rfl⟩
theorem needOtherSt_form {g : RG} {l : List UInt8} {st : RS} (h : (needOtherSt g l st).flt.form = none) : seeOf g st ≠ -1 ∧ inSet l (seeOf g st) = false ∧ st.flt.form = none ∧ needOtherSt g l st = { st with next := st.next + 1 } := by
  unfold needOtherSt at h ⊢
  by_cases hc : seeOf g st = -1 ∨ inSet l (seeOf g st) = true
  · rw [if_pos hc] at h; exact absurd h (refuse_form g st)
  · rw [if_neg hc] at h ⊢
    rw [not_or] at hc
    exact ⟨hc.1, by simpa using hc.2, h, rfl⟩
theorem note_form {st : RS} {e p : Int} (he : e ≠ 3) : (st.note e p).flt.form = st.flt.form := by
  unfold RS.note Flt.note
  simp only
  split
  · rfl
  · unfold Flt.put
    repeat' split
    all_goals first | rfl | (exfalso; omega)
theorem takeOf_form (g : RG) (l : List UInt8) (st : RS) : (takeOf g l st).flt = st.flt := by unfold takeOf; split <;> rfl
end Go.Proofs.YtagehbmipookbaaGreatDoor
