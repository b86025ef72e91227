/- The reader of the program in memory: 'RdAt w g fo st': the reader at g lies in w and is in the state st. The program's reader of patterns as plain functions (a mirror of the program, grammar. -/
import Derived.Test.YtnbfddjaonlmaaaGreatDoorP01
import Derived.Deep.QuietTactic
import Derived.BigQuiet
import Derived.Deep.DeepMust
import Derived.Laws.Cover4
set_option linter.unusedVariables false
set_option maxRecDepth 100000
namespace Go.Proofs.YtnbfddjaonlmaaaGreatDoor
open Go.RowKit Go.Maps

/-- the errors that were noted: their places -/
structure Flt where
  rune : Option Int
  form : Option Int
  rep : Option Int
  cls : Option Int
  nam : Option Int
  big : Option Int
def Flt.get (f : Flt) (e : Int) : Option Int :=
  if e = 2 then f.rune else if e = 3 then f.form else if e = 4 then f.rep else if e = 5 then f.cls else if e = 6 then f.nam else if e = 7 then f.big else none
def Flt.put (f : Flt) (e : Int) (p : Int) : Flt :=
  if e = 2 then { f with rune := some p } else if e = 3 then { f with form := some p } else if e = 4 then { f with rep := some p } else if e = 5 then { f with cls := some p }
  else if e = 6 then { f with nam := some p } else if e = 7 then { f with big := some p } else f
def Flt.note (f : Flt) (e : Int) (p : Int) : Flt := if (f.get e).isSome then f else f.put e p
def one? (o : Option Int) : Nat := if o.isSome then 1 else 0
def Flt.cnt (f : Flt) : Nat := one? f.rune + one? f.form + one? f.rep + one? f.cls + one? f.nam + one? f.big
theorem one?_le (o : Option Int) : one? o ≤ 1 := by unfold one?; split <;> omega
theorem Flt.cnt_le (f : Flt) : f.cnt ≤ 6 := by
  have := one?_le f.rune; have := one?_le f.form; have := one?_le f.rep; have := one?_le f.cls; have := one?_le f.nam; have := one?_le f.big
  unfold Flt.cnt; omega
theorem Flt.get_put (f : Flt) (e e' p : Int) (h : 2 ≤ e ∧ e ≤ 7) : (f.put e p).get e' = if e' = e then some p else f.get e' := by
  have : e = 2 ∨ e = 3 ∨ e = 4 ∨ e = 5 ∨ e = 6 ∨ e = 7 := by omega
  rcases this with rfl | rfl | rfl | rfl | rfl | rfl <;> simp [Flt.put, Flt.get] <;> (repeat' split) <;> first | rfl | omega | simp_all
theorem Flt.cnt_put (f : Flt) (e p : Int) (h : 2 ≤ e ∧ e ≤ 7) (hn : (f.get e).isSome = false) : (f.put e p).cnt = f.cnt + 1 := by
  have : e = 2 ∨ e = 3 ∨ e = 4 ∨ e = 5 ∨ e = 6 ∨ e = 7 := by omega
  rcases this with rfl | rfl | rfl | rfl | rfl | rfl <;> simp [Flt.get] at hn <;> simp [Flt.put, Flt.cnt, one?, hn] <;> omega

/-- a map of the errors -/
structure FMap (D : DataW Unit) (F : Flt) : Prop where
  isMap : IsMap D
  has : ∀ e, Maps.has D (.int .i64 e) = (F.get e).isSome
  val : ∀ e p, F.get e = some p → D.atKey (.int .i64 e) (.lit (.int .i64 0)) = .lit (.int .i64 p)
  size : Maps.size D = F.cnt

/-- a map of names and their groups' numbers -/
structure NMap (D : DataW Unit) (l : List (List UInt8 × Nat)) : Prop where
  isMap : IsMap D
  has : ∀ s, Maps.has D (.string s) = l.any (fun p => p.1 == s)
  val : ∀ s k, (s, k) ∈ l → D.atKey (.string s) (.lit (.int .i64 0)) = .lit (.int .i64 k)
  size : Maps.size D = l.length

theorem isKey_int (e : Int) : WideAt.IsKeyLit (.int .i64 e) := by simp [WideAt.IsKeyLit]
theorem isKey_string (s : List UInt8) : WideAt.IsKeyLit (.string s) := by simp [WideAt.IsKeyLit]

theorem FMap.put {D : DataW Unit} {F : Flt} (h : FMap D F) (ht : Tidy D) (e p : Int) (he : 2 ≤ e ∧ e ≤ 7) (hn : (F.get e).isSome = false) : FMap (D.put (.int .i64 e) (.lit (.int .i64 p))) (F.put e p) where
  isMap := h.isMap.put _ _
  has e' := by
    rw [Flt.get_put F e e' p he]
    by_cases x : e' = e
    · subst x; simp [has_put_same h.isMap (isKey_int _)]
    · rw [has_put_other (by simpa using x), h.has]; simp [x]
  val e' q hq := by
    rw [Flt.get_put F e e' p he] at hq
    by_cases x : e' = e
    · subst x; simp at hq; subst hq; exact atKey_put_same h.isMap (isKey_int _) _ _
    · rw [if_neg x] at hq
      rw [atKey_put_other (by simpa using x)]; exact h.val e' q hq
  size := by
    rw [Maps.size_put ht, h.has, hn, if_neg (by simp), h.size, Flt.cnt_put F e p he hn]

theorem NMap.put {D : DataW Unit} {l : List (List UInt8 × Nat)} (h : NMap D l) (ht : Tidy D) (s : List UInt8) (k : Nat) (hn : l.any (fun p => p.1 == s) = false) : NMap (D.put (.string s) (.lit (.int .i64 k))) ((s, k) :: l) where
  isMap := h.isMap.put _ _
  has s' := by
    by_cases x : s' = s
    · subst x; simp [has_put_same h.isMap (isKey_string _)]
    · rw [has_put_other (by simpa using x), h.has]
      have : (s == s') = false := by simp; exact fun e => x e.symm
      simp [this]
  val s' q hq := by
    by_cases x : s' = s
    · subst x
      rcases List.mem_cons.1 hq with hq | hq
      · cases hq; exact atKey_put_same h.isMap (isKey_string _) _ _
      · exfalso
        have := List.any_eq_false.1 hn _ hq
        simp at this
    · rw [atKey_put_other (by simpa using x)]
      rcases List.mem_cons.1 hq with hq | hq
      · cases hq; exact absurd rfl x
      · exact h.val s' q hq
  size := by
    rw [Maps.size_put ht, h.has, hn, if_neg (by simp), h.size]; simp

/-- where a reader lies, and what it reads -/
structure RG where
  b : Nat
  ao : Option Addr
  br : Nat
  cr : Nat
  bp : Nat
  cp : Nat
  bf : Nat
  bn : Nat
  rs : List Int
  ps : List Int

/-- the state of a reader -/
structure RS where
  next : Nat
  flt : Flt
  groups : Nat
  names : List (List UInt8 × Nat)

def RG.own (g : RG) : Nat → Prop := fun k => k = g.b ∨ k = g.bf ∨ k = g.bn
def RG.use (g : RG) : Nat → Prop := fun k => k = g.b ∨ k = g.bf ∨ k = g.bn ∨ k = g.br ∨ k = g.bp

def cellsOfRd (g : RG) (fo : Bool) (st : RS) : Array Value :=
  #[.slice g.ao g.rs.length g.cr, .slice (some ⟨g.bp, 0, none⟩) (g.rs.length + 1) g.cp, .int .i64 st.next, .map (some g.bf), .bool fo, .int .i64 st.groups, .map (some g.bn)]

structure RdAt (w : World) (g : RG) (fo : Bool) (st : RS) : Prop where
  blk : Blk w g.b (cellsOfRd g fo st) 80
  isSome : 0 < g.rs.length → g.ao = some ⟨g.br, 0, none⟩
  runes : ∀ i, i < g.rs.length → w.cell? ⟨g.br, i, none⟩ = some (.int .i32 (g.rs.getD i 0))
  places : ∀ i, i < g.rs.length + 1 → w.cell? ⟨g.bp, i, none⟩ = some (.int .i64 (g.ps.getD i 0))
  brlt : g.br < w.heap.size
  bplt : g.bp < w.heap.size
  prange : ∀ i, 0 ≤ g.ps.getD i 0 ∧ g.ps.getD i 0 ≤ 300
  rrange : ∀ r ∈ g.rs, 0 ≤ r ∧ r ≤ 1114111
  fm : ∃ D, w.ownsMap Tryz.prog 27 (plainElem (H := Unit) Tryz.prog 3) g.bf (Maps.size D) D ∧ FMap D st.flt
  nm : ∃ D, w.ownsMap Tryz.prog 9 (plainElem (H := Unit) Tryz.prog 3) g.bn (Maps.size D) D ∧ NMap D st.names
  len : g.rs.length ≤ 300
  capr : g.rs.length ≤ g.cr
  next : st.next ≤ g.rs.length
  groups : st.groups ≤ st.next
  names : st.names.length ≤ st.groups
  apart : g.b ≠ g.br ∧ g.b ≠ g.bp ∧ g.b ≠ g.bf ∧ g.b ≠ g.bn ∧ g.bf ≠ g.br ∧ g.bf ≠ g.bp ∧ g.bf ≠ g.bn ∧ g.bn ≠ g.br ∧ g.bn ≠ g.bp

theorem ownsMap_kept {w w' : World} {k : TypeId} {R : Value → Option (DataW Unit × List MemPlace)} {b n : Nat} {D : DataW Unit} {S : Nat → Prop} (h : w.ownsMap Tryz.prog k R b n D) (hk : Kept S w w') (hs : ¬ S b) : w'.ownsMap Tryz.prog k R b n D := by
  have hlt := h.lt
  obtain ⟨es, clock, hb, r⟩ := h
  exact ⟨es, clock, (hk.block b hlt hs).trans hb, r⟩

theorem RdAt.blt {w : World} {g : RG} {fo : Bool} {st : RS} (h : RdAt w g fo st) : g.b < w.heap.size := h.blk.lt

/-- what keeps the reader's blocks keeps the reader -/
theorem RdAt.kept {w w' : World} {g : RG} {fo : Bool} {st : RS} {S : Nat → Prop} (h : RdAt w g fo st) (k : Kept S w w') (hs : ∀ i, g.use i → ¬ S i) : RdAt w' g fo st where
  blk := h.blk.kept k (hs _ (by simp [RG.use]))
  isSome := h.isSome
  runes i hi := (k.cell (p := ⟨g.br, i, none⟩) h.brlt (hs _ (by simp [RG.use]))).trans (h.runes i hi)
  places i hi := (k.cell (p := ⟨g.bp, i, none⟩) h.bplt (hs _ (by simp [RG.use]))).trans (h.places i hi)
  brlt := Nat.lt_of_lt_of_le h.brlt k.size
  bplt := Nat.lt_of_lt_of_le h.bplt k.size
  prange := h.prange
  rrange := h.rrange
  fm := by obtain ⟨D, hD, hF⟩ := h.fm; exact ⟨D, ownsMap_kept hD k (hs _ (by simp [RG.use])), hF⟩
  nm := by obtain ⟨D, hD, hF⟩ := h.nm; exact ⟨D, ownsMap_kept hD k (hs _ (by simp [RG.use])), hF⟩
  len := h.len
  capr := h.capr
  next := h.next
  groups := h.groups
  names := h.names
  apart := h.apart

theorem RdAt.nil {w w' : World} {g : RG} {fo : Bool} {st : RS} (h : RdAt w g fo st) (k : Kept Nil w w') : RdAt w' g fo st := h.kept k (fun _ _ hx => hx)

/-- the place is moved on -/
theorem RdAt.setNext {w : World} {g : RG} {fo : Bool} {st : RS} (h : RdAt w g fo st) (m : Nat) (hm : m ≤ g.rs.length) (hg : st.groups ≤ m) : RdAt (w.setCell ⟨g.b, 2, none⟩ (.int .i64 m)) g fo { st with next := m } where
  blk := h.blk.setCell 2 _
  isSome := h.isSome
  runes i hi := by
    rw [World.cell?_of_block (w := w) (Below.heap_setCell w _ _ g.br (fun e => h.apart.1 e.symm))]; exact h.runes i hi
  places i hi := by
    rw [World.cell?_of_block (w := w) (Below.heap_setCell w _ _ g.bp (fun e => h.apart.2.1 e.symm))]; exact h.places i hi
  brlt := by have := h.brlt; simpa [World.setCell] using this
  bplt := by have := h.bplt; simpa [World.setCell] using this
  prange := h.prange
  rrange := h.rrange
  fm := by obtain ⟨D, hD, hF⟩ := h.fm; exact ⟨D, hD.setCell (a := ⟨g.b, 2, none⟩) (fun e => h.apart.2.2.1 e.symm) _, hF⟩
  nm := by obtain ⟨D, hD, hF⟩ := h.nm; exact ⟨D, hD.setCell (a := ⟨g.b, 2, none⟩) (fun e => h.apart.2.2.2.1 e.symm) _, hF⟩
  len := h.len
  capr := h.capr
  next := hm
  groups := hg
  names := h.names
  apart := h.apart

/-- the place of the groups' number and of 'fold' -/
theorem RdAt.setFold {w : World} {g : RG} {fo : Bool} {st : RS} (h : RdAt w g fo st) (f2 : Bool) : RdAt (w.setCell ⟨g.b, 4, none⟩ (.bool f2)) g f2 st where
  blk := h.blk.setCell 4 _
  isSome := h.isSome
  runes i hi := by
    rw [World.cell?_of_block (w := w) (Below.heap_setCell w _ _ g.br (fun e => h.apart.1 e.symm))]; exact h.runes i hi
  places i hi := by
    rw [World.cell?_of_block (w := w) (Below.heap_setCell w _ _ g.bp (fun e => h.apart.2.1 e.symm))]; exact h.places i hi
  brlt := by have := h.brlt; simpa [World.setCell] using this
  bplt := by have := h.bplt; simpa [World.setCell] using this
  prange := h.prange
  rrange := h.rrange
  fm := by obtain ⟨D, hD, hF⟩ := h.fm; exact ⟨D, hD.setCell (a := ⟨g.b, 4, none⟩) (fun e => h.apart.2.2.1 e.symm) _, hF⟩
  nm := by obtain ⟨D, hD, hF⟩ := h.nm; exact ⟨D, hD.setCell (a := ⟨g.b, 4, none⟩) (fun e => h.apart.2.2.2.1 e.symm) _, hF⟩
  len := h.len
  capr := h.capr
  next := h.next
  groups := h.groups
  names := h.names
  apart := h.apart

theorem own_setCell {w : World} (g : RG) (i : Nat) (v : Value) : Kept g.own w (w.setCell ⟨g.b, i, none⟩ v) := (Kept.refl _ _).setCell (Or.inl (by simp [RG.own])) v

/-! ## place, see -/

theorem place_any {w : World} {g : RG} {fo : Bool} {st : RS} (h : RdAt w g fo st) :
    Calls Tryz.prog 54 #[.pointer (some ⟨g.b, 0, none⟩)] w fun e w' => e = .returned (.int .i64 (g.ps.getD st.next 0)) ∧ Kept Nil w w' := by
  have c1 : w.cell? ⟨g.b, 1, none⟩ = some (.slice (some ⟨g.bp, 0, none⟩) (g.rs.length + 1) g.cp) := h.blk.cell 1
  have c2 : w.cell? ⟨g.b, 2, none⟩ = some (.int .i64 st.next) := h.blk.cell 2
  have hn := h.next
  have hl := h.len
  have cp := h.places st.next (by omega)
  have hlt : st.next < g.rs.length + 1 := by omega
  clear h
  go_enter Tryz.func54, Tryz.ntmps54
  go_wp2
  go_region
  all_goals go_wp2
  all_goals go_ret
  all_goals exact ⟨rfl, (Kept.refl _ _).drew⟩

/-- the rune that is seen; -1: none -/
def seeOf (g : RG) (st : RS) : Int := g.rs.getD st.next (-1)

theorem see_any {w : World} {g : RG} {fo : Bool} {st : RS} (h : RdAt w g fo st) :
    Calls Tryz.prog 38 #[.pointer (some ⟨g.b, 0, none⟩)] w fun e w' => e = .returned (.int .i32 (seeOf g st)) ∧ Kept Nil w w' := by
  have c0 : w.cell? ⟨g.b, 0, none⟩ = some (.slice g.ao g.rs.length g.cr) := h.blk.cell 0
  have c2 : w.cell? ⟨g.b, 2, none⟩ = some (.int .i64 st.next) := h.blk.cell 2
  have hn := h.next
  have hl := h.len
  by_cases hlt : st.next < g.rs.length
  · have hao := h.isSome (by omega)
    rw [hao] at c0
    have cp := h.runes st.next hlt
    have hne : ((st.next : Int) == (g.rs.length : Int)) = false := by simp; omega
    have hs : g.rs.getD st.next 0 = seeOf g st := by simp [seeOf, List.getD, List.getElem?_eq_getElem hlt]
    rw [hs] at cp
    clear h hao hs
    go_enter Tryz.func38, Tryz.ntmps38
    go_wp2
    go_region
    all_goals go_wp2
    all_goals go_region
    all_goals go_wp2
    all_goals go_ret
    all_goals exact ⟨rfl, (Kept.refl _ _).drew.drew⟩
  · have hne : ((st.next : Int) == (g.rs.length : Int)) = true := by simp; omega
    have hs : seeOf g st = -1 := by simp [seeOf, List.getD, List.getElem?_eq_none (by omega : g.rs.length ≤ st.next)]
    rw [hs]
    clear h hs
    go_enter Tryz.func38, Tryz.ntmps38
    go_wp2
    go_region
    all_goals go_wp2
    all_goals go_ret
    all_goals exact ⟨rfl, (Kept.refl _ _).drew⟩

theorem RdAt.see_range {w : World} {g : RG} {fo : Bool} {st : RS} (h : RdAt w g fo st) (st' : RS) : -1 ≤ seeOf g st' ∧ seeOf g st' ≤ 1114111 := by
  unfold seeOf
  by_cases hl : st'.next < g.rs.length
  · have e : g.rs.getD st'.next (-1) = g.rs[st'.next] := by simp [List.getD, List.getElem?_eq_getElem hl]
    have := h.rrange _ (List.getElem_mem hl)
    rw [e]; omega
  · have e : g.rs.getD st'.next (-1) = -1 := by simp [List.getD, List.getElem?_eq_none (by omega : g.rs.length ≤ st'.next)]
    rw [e]; omega

theorem seeOf_lt {g : RG} {st : RS} {l : List UInt8} (h : inSet l (seeOf g st) = true) : st.next < g.rs.length := by
  apply Decidable.byContradiction
  intro hn
  have : seeOf g st = -1 := by simp [seeOf, List.getD, List.getElem?_eq_none (by omega : g.rs.length ≤ st.next)]
  rw [this] at h
  unfold inSet at h
  obtain ⟨b, _, hb⟩ := List.any_eq_true.1 h
  have := beq_iff_eq.1 hb
  omega

theorem sees_any {w : World} {g : RG} {fo : Bool} {st : RS} (h : RdAt w g fo st) (s : ByteArray) (hs : ∀ b ∈ s.data.toList, b.toNat < 128) :
    Calls Tryz.prog 67 #[.pointer (some ⟨g.b, 0, none⟩), .string s] w fun e w' => e = .returned (.bool (inSet s.data.toList (seeOf g st))) ∧ Kept Nil w w' := by
  go_enter Tryz.func67, Tryz.ntmps67
  go_wp2_with (first | (go_at_call 38; refine (see_any h).mono ?_; rintro e w1 ⟨rfl, hk1⟩) | (go_at_call 81; refine (containsRune_any _ _ _ hs).mono ?_; rintro e w2 ⟨rfl, hk2⟩))
  go_ret
  exact ⟨rfl, Kept.trans (by assumption) (by assumption)⟩

/-- the state behind take -/
def takeOf (g : RG) (l : List UInt8) (st : RS) : RS := if inSet l (seeOf g st) then { st with next := st.next + 1 } else st

theorem take_yes {w : World} {g : RG} {fo : Bool} {st : RS} (h : RdAt w g fo st) (s : ByteArray) (hs : ∀ b ∈ s.data.toList, b.toNat < 128) (hy : inSet s.data.toList (seeOf g st) = true) :
    Calls Tryz.prog 53 #[.pointer (some ⟨g.b, 0, none⟩), .string s] w fun e w' => e = .returned (.bool true) ∧ RdAt w' g fo { st with next := st.next + 1 } ∧ Kept g.own w w' := by
  have hlt := seeOf_lt hy
  have hl := h.len
  go_enter Tryz.func53, Tryz.ntmps53
  go_wp2_with fail
  refine (sees_any h s hs).mono ?_
  rintro e w1 ⟨rfl, hk1⟩
  have h1 := h.nil hk1
  have c2 : w1.cell? ⟨g.b, 2, none⟩ = some (.int .i64 st.next) := h1.blk.cell 2
  have f2 : w1.frozen? ⟨g.b, 2, none⟩ = false := h1.blk.frozen 2
  rw [hy]
  go_wp2_with fail
  go_ret
  refine ⟨rfl, ?_, (hk1.mono (fun _ hx => hx.elim)).trans (own_setCell g 2 _)⟩
  have := h1.setNext (st.next + 1) (by omega) (by have := h.groups; omega)
  simpa using this

theorem take_no {w : World} {g : RG} {fo : Bool} {st : RS} (h : RdAt w g fo st) (s : ByteArray) (hs : ∀ b ∈ s.data.toList, b.toNat < 128) (hy : inSet s.data.toList (seeOf g st) = false) :
    Calls Tryz.prog 53 #[.pointer (some ⟨g.b, 0, none⟩), .string s] w fun e w' => e = .returned (.bool false) ∧ RdAt w' g fo st ∧ Kept g.own w w' := by
  go_enter Tryz.func53, Tryz.ntmps53
  go_wp2_with fail
  refine (sees_any h s hs).mono ?_
  rintro e w1 ⟨rfl, hk1⟩
  rw [hy]
  go_wp2_with fail
  go_ret
  exact ⟨rfl, h.nil hk1, hk1.mono (fun _ hx => hx.elim)⟩

theorem take_any {w : World} {g : RG} {fo : Bool} {st : RS} (h : RdAt w g fo st) (s : ByteArray) (hs : ∀ b ∈ s.data.toList, b.toNat < 128) :
    Calls Tryz.prog 53 #[.pointer (some ⟨g.b, 0, none⟩), .string s] w fun e w' => e = .returned (.bool (inSet s.data.toList (seeOf g st))) ∧ RdAt w' g fo (takeOf g s.data.toList st) ∧ Kept g.own w w' := by
  unfold takeOf
  cases hy : inSet s.data.toList (seeOf g st)
  · exact take_no h s hs hy
  · exact take_yes h s hs hy

/-! ## note -/
theorem zeroInt (w : World) : (zeroValue 3).run Tryz.prog w = .ok (.int .i64 0) w := by kernel_rfl
theorem lawErr : Keyed Tryz.prog 27 := int_keyed Tryz.underlying27
theorem lawStr : Keyed Tryz.prog 9 := string_keyed Tryz.underlying9

def RS.note (st : RS) (e p : Int) : RS := { st with flt := st.flt.note e p }

theorem RdAt.noted {w w' : World} {g : RG} {fo : Bool} {st : RS} (h : RdAt w g fo st) {D : DataW Unit} (F : Flt) (hD : w'.ownsMap Tryz.prog 27 (plainElem (H := Unit) Tryz.prog 3) g.bf (Maps.size D) D) (hF : FMap D F)
    (k : Kept (fun i => i = g.bf) w w') : RdAt w' g fo { st with flt := F } where
  blk := h.blk.kept k (fun e => h.apart.2.2.1 e)
  isSome := h.isSome
  runes i hi := (k.cell (p := ⟨g.br, i, none⟩) h.brlt (fun e => h.apart.2.2.2.2.1 e.symm)).trans (h.runes i hi)
  places i hi := (k.cell (p := ⟨g.bp, i, none⟩) h.bplt (fun e => h.apart.2.2.2.2.2.1 e.symm)).trans (h.places i hi)
  brlt := Nat.lt_of_lt_of_le h.brlt k.size
  bplt := Nat.lt_of_lt_of_le h.bplt k.size
  prange := h.prange
  rrange := h.rrange
  fm := ⟨D, hD, hF⟩
  nm := by obtain ⟨D, hD, hF⟩ := h.nm; exact ⟨D, ownsMap_kept hD k (fun e => h.apart.2.2.2.2.2.2.1 e.symm), hF⟩
  len := h.len
  capr := h.capr
  next := h.next
  groups := h.groups
  names := h.names
  apart := h.apart

theorem note_any {w : World} {g : RG} {fo : Bool} {st : RS} (h : RdAt w g fo st) (e p : Int) (he : 2 ≤ e ∧ e ≤ 7) (hp : 0 ≤ p ∧ p ≤ 300) :
    Calls Tryz.prog 30 #[.pointer (some ⟨g.b, 0, none⟩), .int .i64 e, .int .i64 p] w fun en w' => en = .returned (.tuple #[]) ∧ RdAt w' g fo (st.note e p) ∧ Kept g.own w w' := by
  have c3 : w.cell? ⟨g.b, 3, none⟩ = some (.map (some g.bf)) := h.blk.cell 3
  obtain ⟨D, hD, hF⟩ := h.fm
  have hkey : keyOf Tryz.prog 27 (.int .i64 e) = some (.int .i64 e) := keyOf_int_mk Tryz.underlying27 (WalkArith.wf_i64 (by omega))
  have hsz : Maps.size D < maxLen := by rw [hF.size]; have := st.flt.cnt_le; unfold maxLen; omega
  go_enter Tryz.func30, Tryz.ntmps30
  go_wp2_with (first | (at_lookup; refine wpList_lookup_own_ok_int _ rfl _ _ 78 rfl 27 3 .i64 lawErr Tryz.underlying78 Tryz.underlying3 (zeroInt _) g.bf _ D rfl hD _ _ rfl hkey ?_; intro c hat hwc) | (at_mapUpdate; refine wpList_mapUpdate_own _ rfl _ _ _ 78 rfl 27 3 lawErr Tryz.underlying78 _ g.bf _ _ rfl hD hsz _ _ _ rfl rfl hkey _ [] (plainElem_int Tryz.underlying3 (WalkArith.wf_i64 (by omega))) ?_; intro w1 hown1 hgrow1))
  · have hno : has D (.int .i64 e) = false := by have : (!has D (.int .i64 e)) = true := by assumption
                                                 simpa using this
    rw [hF.has] at hno
    have hF' := hF.put (hD.tidy lawErr) e p he hno
    go_end0
    refine ⟨rfl, ?_, ?_⟩
    · have hn : st.note e p = { st with flt := st.flt.put e p } := by simp [RS.note, Flt.note, hno]
      rw [hn]
      refine h.noted (D := D.put (.int .i64 e) (.lit (.int .i64 p))) _ ?_ hF' ((Kept.refl _ _).grown (by assumption) (fun k hk => Or.inl (by cases hk; rfl)))
      have e1 : Maps.size (D.put (.int .i64 e) (.lit (.int .i64 p))) = Maps.size D + 1 := by rw [hF'.size, hF.size, Flt.cnt_put _ _ _ he hno]
      rw [e1]
      assumption
    · exact (Kept.refl _ _).grown (by assumption) (fun k hk => Or.inl (by cases hk; simp [RG.own]))
  · have hyes : has D (.int .i64 e) = true := by have : (!has D (.int .i64 e)) = false := by assumption
                                                 simpa using this
    rw [hF.has] at hyes
    go_end0
    refine ⟨rfl, ?_, Kept.refl _ _⟩
    have hn : st.note e p = st := by simp [RS.note, Flt.note, hyes]
    rw [hn]; exact h

theorem RdAt.named {w w' : World} {g : RG} {fo : Bool} {st : RS} (h : RdAt w g fo st) {D : DataW Unit} (l : List (List UInt8 × Nat)) (hD : w'.ownsMap Tryz.prog 9 (plainElem (H := Unit) Tryz.prog 3) g.bn (Maps.size D) D) (hF : NMap D l)
    (k : Kept (fun i => i = g.bn) w w') (hn : l.length ≤ st.groups) : RdAt w' g fo { st with names := l } where
  blk := h.blk.kept k (fun e => h.apart.2.2.2.1 e)
  isSome := h.isSome
  runes i hi := (k.cell (p := ⟨g.br, i, none⟩) h.brlt (fun e => h.apart.2.2.2.2.2.2.2.1 e.symm)).trans (h.runes i hi)
  places i hi := (k.cell (p := ⟨g.bp, i, none⟩) h.bplt (fun e => h.apart.2.2.2.2.2.2.2.2 e.symm)).trans (h.places i hi)
  brlt := Nat.lt_of_lt_of_le h.brlt k.size
  bplt := Nat.lt_of_lt_of_le h.bplt k.size
  prange := h.prange
  rrange := h.rrange
  fm := by obtain ⟨D, hD, hF⟩ := h.fm; exact ⟨D, ownsMap_kept hD k (fun e => h.apart.2.2.2.2.2.2.1 e), hF⟩
  nm := ⟨D, hD, hF⟩
  len := h.len
  capr := h.capr
  next := h.next
  groups := h.groups
  names := hn
  apart := h.apart

/-! ## refuse, need, needOther -/
def placeOf (g : RG) (st : RS) : Int := g.ps.getD st.next 0
def refuseOf (g : RG) (st : RS) : RS := { st.note 3 (placeOf g st) with next := g.rs.length }

theorem refuse_any {w : World} {g : RG} {fo : Bool} {st : RS} (h : RdAt w g fo st) :
    Calls Tryz.prog 39 #[.pointer (some ⟨g.b, 0, none⟩)] w fun en w' => en = .returned (.tuple #[]) ∧ RdAt w' g fo (refuseOf g st) ∧ Kept g.own w w' := by
  have hp := h.prange st.next
  go_enter Tryz.func39, Tryz.ntmps39
  go_wp2_with fail
  refine (place_any h).mono ?_
  rintro e w1 ⟨rfl, hk1⟩
  have h1 := h.nil hk1
  go_wp2_with fail
  refine (note_any h1 3 _ (by omega) hp).mono ?_
  rintro e w2 ⟨rfl, h2, hk2⟩
  have c0 : w2.cell? ⟨g.b, 0, none⟩ = some (.slice g.ao g.rs.length g.cr) := h2.blk.cell 0
  have c2 : w2.cell? ⟨g.b, 2, none⟩ = some (.int .i64 st.next) := h2.blk.cell 2
  have f2 : w2.frozen? ⟨g.b, 2, none⟩ = false := h2.blk.frozen 2
  go_wp2_with fail
  go_end0
  exact ⟨rfl, h2.setNext g.rs.length (Nat.le_refl _) (by have := h2.groups; have := h2.next; omega), ((hk1.mono (fun _ hx => hx.elim)).trans hk2).trans (own_setCell g 2 _)⟩

/-- the state behind need -/
def needSt (g : RG) (l : List UInt8) (st : RS) : RS := if inSet l (seeOf g st) then { st with next := st.next + 1 } else refuseOf g st
def needOtherSt (g : RG) (l : List UInt8) (st : RS) : RS := if seeOf g st = -1 ∨ inSet l (seeOf g st) = true then refuseOf g st else { st with next := st.next + 1 }

theorem needSt_any {w : World} {g : RG} {fo : Bool} {st : RS} (h : RdAt w g fo st) (s : ByteArray) (hs : ∀ b ∈ s.data.toList, b.toNat < 128) :
    Calls Tryz.prog 99 #[.pointer (some ⟨g.b, 0, none⟩), .string s] w fun e w' => e = .returned (.tuple #[]) ∧ RdAt w' g fo (needSt g s.data.toList st) ∧ Kept g.own w w' := by
  unfold needSt
  cases hy : inSet s.data.toList (seeOf g st)
  · go_enter Tryz.func99, Tryz.ntmps99
    go_wp2_with fail
    refine (take_no h s hs hy).mono ?_
    rintro e w1 ⟨rfl, h1, hk1⟩
    go_wp2_with fail
    refine (refuse_any h1).mono ?_
    rintro e w2 ⟨rfl, h2, hk2⟩
    go_wp2_with fail
    go_end0
    exact ⟨rfl, by simpa using h2, hk1.trans hk2⟩
  · go_enter Tryz.func99, Tryz.ntmps99
    go_wp2_with fail
    refine (take_yes h s hs hy).mono ?_
    rintro e w1 ⟨rfl, h1, hk1⟩
    go_wp2_with fail
    go_end0
    exact ⟨rfl, by simpa using h1, hk1⟩

theorem needOther_any {w : World} {g : RG} {fo : Bool} {st : RS} (h : RdAt w g fo st) (s : ByteArray) (hs : ∀ b ∈ s.data.toList, b.toNat < 128) :
    Calls Tryz.prog 88 #[.pointer (some ⟨g.b, 0, none⟩), .string s] w fun e w' => e = .returned (.int .i32 (seeOf g st)) ∧ RdAt w' g fo (needOtherSt g s.data.toList st) ∧ Kept g.own w w' := by
  unfold needOtherSt
  have hl := h.len
  by_cases hend : seeOf g st = -1
  · rw [if_pos (Or.inl hend)]
    have hb : (seeOf g st == -1) = true := by simp [hend]
    go_enter Tryz.func88, Tryz.ntmps88
    go_wp2_with fail
    refine (see_any h).mono ?_
    rintro e w1 ⟨rfl, hk1⟩
    go_wp2_with fail
    refine (refuse_any (h.nil hk1)).mono ?_
    rintro e w2 ⟨rfl, h2, hk2⟩
    go_wp2_with fail
    go_ret
    exact ⟨by rw [hend]; rfl, h2, (hk1.mono (fun _ hx => hx.elim)).trans hk2⟩
  · have hb : (seeOf g st == -1) = false := by simp [hend]
    have hlt : st.next < g.rs.length := by
      apply Decidable.byContradiction
      intro hn
      exact hend (by simp [seeOf, List.getD, List.getElem?_eq_none (by omega : g.rs.length ≤ st.next)])
    cases hy : inSet s.data.toList (seeOf g st)
    · rw [if_neg (by simp [hend])]
      go_enter Tryz.func88, Tryz.ntmps88
      go_wp2_with fail
      refine (see_any h).mono ?_
      rintro e w1 ⟨rfl, hk1⟩
      have h1 := h.nil hk1
      go_wp2_with fail
      refine (sees_any h1 s hs).mono ?_
      rintro e w2 ⟨rfl, hk2⟩
      have h2 := h1.nil hk2
      have c2 : w2.cell? ⟨g.b, 2, none⟩ = some (.int .i64 st.next) := h2.blk.cell 2
      have f2 : w2.frozen? ⟨g.b, 2, none⟩ = false := h2.blk.frozen 2
      rw [hy]
      go_wp2_with fail
      go_ret
      refine ⟨rfl, ?_, ((hk1.trans hk2).mono (fun _ hx => hx.elim)).trans (own_setCell g 2 _)⟩
      have := h2.setNext (st.next + 1) (by omega) (by have := h.groups; omega)
      simpa using this
    · rw [if_pos (Or.inr rfl)]
      go_enter Tryz.func88, Tryz.ntmps88
      go_wp2_with fail
      refine (see_any h).mono ?_
      rintro e w1 ⟨rfl, hk1⟩
      have h1 := h.nil hk1
      go_wp2_with fail
      refine (sees_any h1 s hs).mono ?_
      rintro e w2 ⟨rfl, hk2⟩
      have h2 := h1.nil hk2
      rw [hy]
      go_wp2_with fail
      refine (refuse_any h2).mono ?_
      rintro e w3 ⟨rfl, h3, hk3⟩
      go_wp2_with fail
      go_ret
      exact ⟨rfl, h3, ((hk1.trans hk2).mono (fun _ hx => hx.elim)).trans hk3⟩
end Go.Proofs.YtnbfddjaonlmaaaGreatDoor
namespace Go.Proofs.YtnbfddjaonlmaaaGreatDoor

def lDigits : List UInt8 := [48, 49, 50, 51, 52, 53, 54, 55, 56, 57]
def lComma : List UInt8 := [44]
def lBrace : List UInt8 := [125]
def lOpenBrace : List UInt8 := [123]
def lNotOne : List UInt8 := [92, 91, 93, 94, 45]
def lMarks : List UInt8 := [46, 94, 36, 124, 63, 42, 43, 40, 41, 91, 93, 123, 125, 45, 47, 92, 110, 116, 114]
def lEscape : List UInt8 := [46, 94, 36, 124, 63, 42, 43, 40, 41, 91, 93, 123, 125, 45, 47, 92, 110, 116, 114, 100, 68, 119, 87, 115, 83, 98, 66]
def lBack : List UInt8 := [92]
def lSets : List UInt8 := [100, 119, 115]
def lDash : List UInt8 := [45]
def lCaret : List UInt8 := [94]
def lSquare : List UInt8 := [93]
def lOpenSquare : List UInt8 := [91]
def lLetters : List UInt8 := [97, 98, 99, 100, 101, 102, 103, 104, 105, 106, 107, 108, 109, 110, 111, 112, 113, 114, 115, 116, 117, 118, 119, 120, 121, 122]
def lGreater : List UInt8 := [62]
def lLess : List UInt8 := [60]
def lQuery : List UInt8 := [63]
def lStar : List UInt8 := [42]
def lPlus : List UInt8 := [43]
def lBar : List UInt8 := [124]
def lRound : List UInt8 := [41]
def lOpenRound : List UInt8 := [40]
def lBarRound : List UInt8 := [124, 41]
def lI : List UInt8 := [105]
def lColon : List UInt8 := [58]
def lSingles : List UInt8 := [46, 94, 36]
def lNotPlain : List UInt8 := [92, 46, 94, 36, 124, 63, 42, 43, 40, 41, 91, 123]

def pDigit (g : RG) (st : RS) : RS × Int := if inSet lDigits (seeOf g st) then ({ st with next := st.next + 1 }, seeOf g st - 48) else (refuseOf g st, 0)
def pNumber (g : RG) (st : RS) : RS × Int :=
  if 0 < (pDigit g st).2 ∧ inSet lDigits (seeOf g (pDigit g st).1) = true then ((pDigit g (pDigit g st).1).1, 10 * (pDigit g st).2 + (pDigit g (pDigit g st).1).2) else pDigit g st
/-- behind the comma -/
def pHigh (g : RG) (st : RS) : RS × Int := if inSet lBrace (seeOf g st) then (st, -1) else pNumber g st
def pBounds (g : RG) (st : RS) : RS × Int × Int :=
  if inSet lComma (seeOf g (pNumber g st).1) then
    (needSt g lBrace (pHigh g { (pNumber g st).1 with next := (pNumber g st).1.next + 1 }).1, (pNumber g st).2, (pHigh g { (pNumber g st).1 with next := (pNumber g st).1.next + 1 }).2)
  else (needSt g lBrace (pNumber g st).1, (pNumber g st).2, (pNumber g st).2)

def escRune (c : Int) : Int := if c = 110 then 10 else if c = 116 then 9 else if c = 114 then 13 else c
def pOne (g : RG) (esc : Bool) (st : RS) : RS × Int := if esc then (needSt g lMarks st, escRune (seeOf g st)) else (needOtherSt g lNotOne st, seeOf g st)
/-- a ONE, its backslash not taken yet -/
def pOne' (g : RG) (st : RS) : RS × Int := pOne g (inSet lBack (seeOf g st)) (takeOf g lBack st)
/-- the rest of an item behind its first ONE -/
def pUpto (g : RG) (place : Int) (x : RS × Int) : RS :=
  if inSet lDash (seeOf g x.1) then
    if (pOne' g { x.1 with next := x.1.next + 1 }).2 < x.2 then (pOne' g { x.1 with next := x.1.next + 1 }).1.note 5 place else (pOne' g { x.1 with next := x.1.next + 1 }).1
  else x.1
def pItem (g : RG) (st : RS) : RS :=
  if inSet lBack (seeOf g st) = true ∧ inSet lSets (seeOf g { st with next := st.next + 1 }) = true then { st with next := st.next + 2 }
  else pUpto g (placeOf g st) (pOne' g st)
def pItems (g : RG) : Nat → RS → RS
  | 0, st => st
  | m + 1, st => if seeOf g st = -1 ∨ inSet lSquare (seeOf g st) = true then st else pItems g m (pItem g st)
def pClass (g : RG) (st : RS) : RS := needSt g lSquare (pItems g (g.rs.length + 1) (pItem g (takeOf g lCaret st)))

def pLetters (g : RG) (first : Nat) : Nat → RS → RS
  | 0, st => st
  | m + 1, st => if st.next < first + 8 ∧ inSet lLetters (seeOf g st) = true then pLetters g first m { st with next := st.next + 1 } else st
def runesToBytes (l : List Int) : List UInt8 := (runesBytes l).data.toList
def pNamed (g : RG) (first : Nat) (st : RS) : RS :=
  if st.names.any (fun p => p.1 == runesToBytes ((g.rs.take st.next).drop first)) then st.note 6 (g.ps.getD first 0)
  else { st with names := (runesToBytes ((g.rs.take st.next).drop first), st.groups) :: st.names }
def pName (g : RG) (st : RS) : RS := needSt g lGreater (pNamed g st.next (pLetters g st.next (g.rs.length + 9) (needSt g lLetters st)))

/-- a piece of a pattern, as the program keeps it -/
inductive PT where
  | node (kind : Int) (parts : List PT) (low high : Int) : PT

mutual
def PT.size : PT → Int
  | .node k ps lo hi =>
    let s := PT.sizes ps
    min (if k = 0 ∨ k = 1 then s + 1 else if k = 3 then s + (ps.length - 1 : Int) else if k = 4 then (if hi = -1 then lo + 1 else hi) * (s + 1) else s) 1001
def PT.sizes : List PT → Int
  | [] => 0
  | p :: ps => PT.size p + PT.sizes ps
end

/-- the times of an atom -/
def pRepeated (g : RG) (a : PT) (st : RS) : RS × PT :=
  if inSet lStar (seeOf g st) then (takeOf g lQuery { st with next := st.next + 1 }, .node 4 [a] 0 (-1))
  else if inSet lPlus (seeOf g st) then (takeOf g lQuery { st with next := st.next + 1 }, .node 4 [a] 1 (-1))
  else if inSet lQuery (seeOf g st) then (takeOf g lQuery { st with next := st.next + 1 }, .node 4 [a] 0 1)
  else if inSet lOpenBrace (seeOf g st) then
    let x := pBounds g { st with next := st.next + 1 }
    (takeOf g lQuery (if x.2.1 > 20 ∨ x.2.2 > 20 ∨ (x.2.2 ≠ -1 ∧ x.2.2 < x.2.1) then x.1.note 4 (placeOf g st) else x.1), .node 4 [a] x.2.1 x.2.2)
  else (st, a)

/-- behind a round bracket, ahead of what is in it -/
def pHead (g : RG) (st : RS) : RS :=
  if inSet lQuery (seeOf g st) = false then { st with groups := st.groups + 1 }
  else if inSet lLess (seeOf g { st with next := st.next + 1 }) then pName g { st with next := st.next + 2, groups := st.groups + 1 }
  else needSt g lColon (takeOf g lI { st with next := st.next + 1 })
def pBracket (g : RG) (alt : RS → RS × PT) (st : RS) : RS × PT := (needSt g lRound (alt (pHead g st)).1, .node 1 [(alt (pHead g st)).2] 0 0)
def single : PT := .node 0 [] 0 0
def pAtom (g : RG) (alt : RS → RS × PT) (st : RS) : RS × PT :=
  if inSet lOpenRound (seeOf g st) then pBracket g alt { st with next := st.next + 1 }
  else if inSet lOpenSquare (seeOf g st) then (pClass g { st with next := st.next + 1 }, single)
  else if inSet lBack (seeOf g st) then (needSt g lEscape { st with next := st.next + 1 }, single)
  else if inSet lSingles (seeOf g st) then ({ st with next := st.next + 1 }, single)
  else (needOtherSt g lNotPlain st, single)
def pSeqs (g : RG) (alt : RS → RS × PT) : Nat → RS → List PT → RS × List PT
  | 0, st, acc => (st, acc)
  | m + 1, st, acc =>
    if seeOf g st = -1 ∨ inSet lBarRound (seeOf g st) = true then (st, acc)
    else pSeqs g alt m (pRepeated g (pAtom g alt st).2 (pAtom g alt st).1).1 (acc ++ [(pRepeated g (pAtom g alt st).2 (pAtom g alt st).1).2])
def pSeq (g : RG) (alt : RS → RS × PT) (st : RS) : RS × PT := ((pSeqs g alt (g.rs.length + 1) st []).1, .node 2 (pSeqs g alt (g.rs.length + 1) st []).2 0 0)
def pAlts (g : RG) (alt : RS → RS × PT) : Nat → RS → List PT → RS × List PT
  | 0, st, acc => (st, acc)
  | m + 1, st, acc =>
    if inSet lBar (seeOf g st) then pAlts g alt m (pSeq g alt { st with next := st.next + 1 }).1 (acc ++ [(pSeq g alt { st with next := st.next + 1 }).2]) else (st, acc)
def pAlt (g : RG) : Nat → RS → RS × PT
  | 0, st => (st, single)
  | k + 1, st => ((pAlts g (pAlt g k) (g.rs.length + 1) (pSeq g (pAlt g k) st).1 [(pSeq g (pAlt g k) st).2]).1, .node 3 (pAlts g (pAlt g k) (g.rs.length + 1) (pSeq g (pAlt g k) st).1 [(pSeq g (pAlt g k) st).2]).2 0 0)
def pWhole (g : RG) (st : RS) : RS × PT :=
  if seeOf g (pAlt g (g.rs.length + 1) st).1 = -1 then pAlt g (g.rs.length + 1) st else (refuseOf g (pAlt g (g.rs.length + 1) st).1, (pAlt g (g.rs.length + 1) st).2)

/-! ## how far a state can be -/
theorem seeOf_end {g : RG} {st : RS} (h : g.rs.length ≤ st.next) : seeOf g st = -1 := by simp [seeOf, List.getD, List.getElem?_eq_none h]
theorem lt_of_see {g : RG} {st : RS} (h : seeOf g st ≠ -1) : st.next < g.rs.length := by
  apply Decidable.byContradiction
  intro hn
  exact h (seeOf_end (by omega))
theorem inSet_digits {r : Int} (h : inSet lDigits r = true) : 48 ≤ r ∧ r ≤ 57 := by
  simp [inSet, lDigits] at h
  omega
end Go.Proofs.YtnbfddjaonlmaaaGreatDoor
