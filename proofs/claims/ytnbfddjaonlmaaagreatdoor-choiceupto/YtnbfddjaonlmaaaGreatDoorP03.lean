/- The reader of the program: digit, number, bounds, one, item, class, name: each does what its mirror says. The reader of the program: name. -/
import Derived.Test.YtnbfddjaonlmaaaGreatDoorP02
import Derived.Deep.LoopGhost
set_option linter.unusedVariables false
set_option maxRecDepth 100000
namespace Go.Proofs.YtnbfddjaonlmaaaGreatDoor
open Go.RowKit Go.Maps
set_option maxRecDepth 100000

theorem seesL {w : World} {g : RG} {fo : Bool} {st : RS} (h : RdAt w g fo st) (s : ByteArray) (l : List UInt8) (hl : s.data.toList = l) (hs : ∀ b ∈ l, b.toNat < 128) :
    Calls Tryz.prog 67 #[.pointer (some ⟨g.b, 0, none⟩), .string s] w fun e w' => e = .returned (.bool (inSet l (seeOf g st))) ∧ RdAt w' g fo st ∧ Kept g.own w w' := by
  subst hl; exact (sees_any h s hs).mono fun e w' ⟨he, hk⟩ => ⟨he, h.nil hk, hk.mono (fun _ hx => hx.elim)⟩
theorem seeL {w : World} {g : RG} {fo : Bool} {st : RS} (h : RdAt w g fo st) :
    Calls Tryz.prog 38 #[.pointer (some ⟨g.b, 0, none⟩)] w fun e w' => e = .returned (.int .i32 (seeOf g st)) ∧ RdAt w' g fo st ∧ Kept g.own w w' :=
  (see_any h).mono fun e w' ⟨he, hk⟩ => ⟨he, h.nil hk, hk.mono (fun _ hx => hx.elim)⟩
theorem placeL {w : World} {g : RG} {fo : Bool} {st : RS} (h : RdAt w g fo st) :
    Calls Tryz.prog 54 #[.pointer (some ⟨g.b, 0, none⟩)] w fun e w' => e = .returned (.int .i64 (placeOf g st)) ∧ RdAt w' g fo st ∧ Kept g.own w w' :=
  (place_any h).mono fun e w' ⟨he, hk⟩ => ⟨he, h.nil hk, hk.mono (fun _ hx => hx.elim)⟩
theorem takeY {w : World} {g : RG} {fo : Bool} {st : RS} (h : RdAt w g fo st) (s : ByteArray) (l : List UInt8) (hl : s.data.toList = l) (hs : ∀ b ∈ l, b.toNat < 128) (hy : inSet l (seeOf g st) = true) :
    Calls Tryz.prog 53 #[.pointer (some ⟨g.b, 0, none⟩), .string s] w fun e w' => e = .returned (.bool true) ∧ RdAt w' g fo { st with next := st.next + 1 } ∧ Kept g.own w w' := by
  subst hl; exact take_yes h s hs hy
theorem takeN {w : World} {g : RG} {fo : Bool} {st : RS} (h : RdAt w g fo st) (s : ByteArray) (l : List UInt8) (hl : s.data.toList = l) (hs : ∀ b ∈ l, b.toNat < 128) (hy : inSet l (seeOf g st) = false) :
    Calls Tryz.prog 53 #[.pointer (some ⟨g.b, 0, none⟩), .string s] w fun e w' => e = .returned (.bool false) ∧ RdAt w' g fo st ∧ Kept g.own w w' := by
  subst hl; exact take_no h s hs hy
theorem takeL {w : World} {g : RG} {fo : Bool} {st : RS} (h : RdAt w g fo st) (s : ByteArray) (l : List UInt8) (hl : s.data.toList = l) (hs : ∀ b ∈ l, b.toNat < 128) :
    Calls Tryz.prog 53 #[.pointer (some ⟨g.b, 0, none⟩), .string s] w fun e w' => e = .returned (.bool (inSet l (seeOf g st))) ∧ RdAt w' g fo (takeOf g l st) ∧ Kept g.own w w' := by
  subst hl; exact take_any h s hs
theorem needL {w : World} {g : RG} {fo : Bool} {st : RS} (h : RdAt w g fo st) (s : ByteArray) (l : List UInt8) (hl : s.data.toList = l) (hs : ∀ b ∈ l, b.toNat < 128) :
    Calls Tryz.prog 99 #[.pointer (some ⟨g.b, 0, none⟩), .string s] w fun e w' => e = .returned (.tuple #[]) ∧ RdAt w' g fo (needSt g l st) ∧ Kept g.own w w' := by
  subst hl; exact needSt_any h s hs
theorem needOtherL {w : World} {g : RG} {fo : Bool} {st : RS} (h : RdAt w g fo st) (s : ByteArray) (l : List UInt8) (hl : s.data.toList = l) (hs : ∀ b ∈ l, b.toNat < 128) :
    Calls Tryz.prog 88 #[.pointer (some ⟨g.b, 0, none⟩), .string s] w fun e w' => e = .returned (.int .i32 (seeOf g st)) ∧ RdAt w' g fo (needOtherSt g l st) ∧ Kept g.own w w' := by
  subst hl; exact needOther_any h s hs

/-! ## digit, number, bounds -/
theorem pDigit_range (g : RG) (st : RS) : 0 ≤ (pDigit g st).2 ∧ (pDigit g st).2 ≤ 9 := by
  unfold pDigit
  cases h : inSet lDigits (seeOf g st)
  · simp
  · have := inSet_digits h; simp; omega

theorem digit_rd {w : World} {g : RG} {fo : Bool} {st : RS} (h : RdAt w g fo st) :
    Calls Tryz.prog 114 #[.pointer (some ⟨g.b, 0, none⟩)] w fun e w' => e = .returned (.int .i64 (pDigit g st).2) ∧ RdAt w' g fo (pDigit g st).1 ∧ Kept g.own w w' := by
  unfold pDigit
  cases hy : inSet lDigits (seeOf g st)
  · go_enter Tryz.func114, Tryz.ntmps114
    go_wp2_with fail
    refine (seeL h).mono ?_
    rintro e w1 ⟨rfl, h1, hk1⟩
    go_wp2_with fail
    refine (takeN h1 _ lDigits (by rfl) (by decide) hy).mono ?_
    rintro e w2 ⟨rfl, h2, hk2⟩
    go_wp2_with fail
    refine (refuse_any h2).mono ?_
    rintro e w3 ⟨rfl, h3, hk3⟩
    go_wp2_with fail
    go_ret
    exact ⟨rfl, h3, (hk1.trans hk2).trans hk3⟩
  · have hd := inSet_digits hy
    go_enter Tryz.func114, Tryz.ntmps114
    go_wp2_with fail
    refine (seeL h).mono ?_
    rintro e w1 ⟨rfl, h1, hk1⟩
    go_wp2_with fail
    refine (takeY h1 _ lDigits (by rfl) (by decide) hy).mono ?_
    rintro e w2 ⟨rfl, h2, hk2⟩
    obtain ⟨d, hd0, hd1, hd2⟩ : ∃ d : Int, seeOf g st = d + 48 ∧ 0 ≤ d ∧ d ≤ 9 := ⟨seeOf g st - 48, by omega, by omega, by omega⟩
    have HD : Hid (seeOf g st = d + 48) := hd0
    rw [hd0]
    clear hd hd0 hy
    go_wp2_with fail
    go_ret
    exact ⟨by rw [HD.out]; simp, h2, hk1.trans hk2⟩

theorem number_rd {w : World} {g : RG} {fo : Bool} {st : RS} (h : RdAt w g fo st) :
    Calls Tryz.prog 98 #[.pointer (some ⟨g.b, 0, none⟩)] w fun e w' => e = .returned (.int .i64 (pNumber g st).2) ∧ RdAt w' g fo (pNumber g st).1 ∧ Kept g.own w w' := by
  have r1 := pDigit_range g st
  have r2 := pDigit_range g (pDigit g st).1
  unfold pNumber
  by_cases hp : 0 < (pDigit g st).2
  · cases hy : inSet lDigits (seeOf g (pDigit g st).1)
    · rw [if_neg (by simp)]
      go_enter Tryz.func98, Tryz.ntmps98
      go_wp2_with fail
      refine (digit_rd h).mono ?_
      rintro e w1 ⟨rfl, h1, hk1⟩
      go_wp2_with fail
      refine (seesL h1 _ lDigits (by rfl) (by decide)).mono ?_
      rintro e w2 ⟨rfl, h2, hk2⟩
      rw [hy]
      go_wp2_with fail
      go_ret
      exact ⟨rfl, h2, hk1.trans hk2⟩
    · rw [if_pos ⟨hp, rfl⟩]
      go_enter Tryz.func98, Tryz.ntmps98
      go_wp2_with fail
      refine (digit_rd h).mono ?_
      rintro e w1 ⟨rfl, h1, hk1⟩
      go_wp2_with fail
      refine (seesL h1 _ lDigits (by rfl) (by decide)).mono ?_
      rintro e w2 ⟨rfl, h2, hk2⟩
      rw [hy]
      go_wp2_with fail
      refine (digit_rd h2).mono ?_
      rintro e w3 ⟨rfl, h3, hk3⟩
      go_wp2_with fail
      go_ret
      exact ⟨rfl, h3, (hk1.trans hk2).trans hk3⟩
  · rw [if_neg (by simp [hp])]
    go_enter Tryz.func98, Tryz.ntmps98
    go_wp2_with fail
    refine (digit_rd h).mono ?_
    rintro e w1 ⟨rfl, h1, hk1⟩
    go_wp2_with fail
    go_ret
    exact ⟨rfl, h1, hk1⟩

theorem pNumber_range (g : RG) (st : RS) : 0 ≤ (pNumber g st).2 ∧ (pNumber g st).2 ≤ 99 := by
  have r1 := pDigit_range g st
  have r2 := pDigit_range g (pDigit g st).1
  unfold pNumber
  split
  · simp; omega
  · omega

theorem bounds_rd {w : World} {g : RG} {fo : Bool} {st : RS} (h : RdAt w g fo st) :
    Calls Tryz.prog 82 #[.pointer (some ⟨g.b, 0, none⟩)] w fun e w' => e = .returned (.tuple #[.int .i64 (pBounds g st).2.1, .int .i64 (pBounds g st).2.2]) ∧ RdAt w' g fo (pBounds g st).1 ∧ Kept g.own w w' := by
  have r1 := pNumber_range g st
  have r2 := pNumber_range g { (pNumber g st).1 with next := (pNumber g st).1.next + 1 }
  unfold pBounds
  cases hc : inSet lComma (seeOf g (pNumber g st).1)
  · go_enter Tryz.func82, Tryz.ntmps82
    go_wp2_with fail
    refine (number_rd h).mono ?_
    rintro e w1 ⟨rfl, h1, hk1⟩
    go_wp2_with fail
    refine (takeN h1 _ lComma (by rfl) (by decide) hc).mono ?_
    rintro e w2 ⟨rfl, h2, hk2⟩
    go_wp2_with fail
    refine (needL h2 _ lBrace (by rfl) (by decide)).mono ?_
    rintro e w3 ⟨rfl, h3, hk3⟩
    go_wp2_with fail
    go_ret2
    exact ⟨rfl, h3, (hk1.trans hk2).trans hk3⟩
  · unfold pHigh
    cases hb : inSet lBrace (seeOf g { (pNumber g st).1 with next := (pNumber g st).1.next + 1 })
    · go_enter Tryz.func82, Tryz.ntmps82
      go_wp2_with fail
      refine (number_rd h).mono ?_
      rintro e w1 ⟨rfl, h1, hk1⟩
      go_wp2_with fail
      refine (takeY h1 _ lComma (by rfl) (by decide) hc).mono ?_
      rintro e w2 ⟨rfl, h2, hk2⟩
      go_wp2_with fail
      refine (seesL h2 _ lBrace (by rfl) (by decide)).mono ?_
      rintro e w3 ⟨rfl, h3, hk3⟩
      rw [hb]
      go_wp2_with fail
      refine (number_rd h3).mono ?_
      rintro e w4 ⟨rfl, h4, hk4⟩
      go_wp2_with fail
      refine (needL h4 _ lBrace (by rfl) (by decide)).mono ?_
      rintro e w5 ⟨rfl, h5, hk5⟩
      go_wp2_with fail
      go_ret2
      exact ⟨rfl, h5, (((hk1.trans hk2).trans hk3).trans hk4).trans hk5⟩
    · go_enter Tryz.func82, Tryz.ntmps82
      go_wp2_with fail
      refine (number_rd h).mono ?_
      rintro e w1 ⟨rfl, h1, hk1⟩
      go_wp2_with fail
      refine (takeY h1 _ lComma (by rfl) (by decide) hc).mono ?_
      rintro e w2 ⟨rfl, h2, hk2⟩
      go_wp2_with fail
      refine (seesL h2 _ lBrace (by rfl) (by decide)).mono ?_
      rintro e w3 ⟨rfl, h3, hk3⟩
      rw [hb]
      go_wp2_with fail
      refine (needL h3 _ lBrace (by rfl) (by decide)).mono ?_
      rintro e w5 ⟨rfl, h5, hk5⟩
      go_wp2_with fail
      go_ret2
      exact ⟨rfl, h5, ((hk1.trans hk2).trans hk3).trans hk5⟩

/-! ## escaped, one -/
theorem escaped_rd {w : World} {g : RG} {fo : Bool} {st : RS} (h : RdAt w g fo st) :
    Calls Tryz.prog 105 #[.pointer (some ⟨g.b, 0, none⟩)] w fun e w' => e = .returned (.int .i32 (escRune (seeOf g st))) ∧ RdAt w' g fo (needSt g lMarks st) ∧ Kept g.own w w' := by
  go_enter Tryz.func105, Tryz.ntmps105
  go_wp2_with fail
  refine (seeL h).mono ?_
  rintro e w1 ⟨rfl, h1, hk1⟩
  go_wp2_with fail
  refine (needL h1 _ lMarks (by rfl) (by decide)).mono ?_
  rintro e w2 ⟨rfl, h2, hk2⟩
  go_wp2_with fail
  all_goals go_ret
  all_goals refine ⟨?_, h2, hk1.trans hk2⟩
  all_goals (simp only [beq_iff_eq, beq_eq_false_iff_ne, ne_eq] at *; simp [escRune, *])

theorem one_rd {w : World} {g : RG} {fo : Bool} {st : RS} (esc : Bool) (h : RdAt w g fo st) :
    Calls Tryz.prog 115 #[.pointer (some ⟨g.b, 0, none⟩), .bool esc] w fun e w' => e = .returned (.int .i32 (pOne g esc st).2) ∧ RdAt w' g fo (pOne g esc st).1 ∧ Kept g.own w w' := by
  unfold pOne
  cases esc
  · go_enter Tryz.func115, Tryz.ntmps115
    go_wp2_with fail
    refine (needOtherL h _ lNotOne (by rfl) (by decide)).mono ?_
    rintro e w2 ⟨rfl, h2, hk2⟩
    go_wp2_with fail
    go_ret
    exact ⟨rfl, h2, hk2⟩
  · go_enter Tryz.func115, Tryz.ntmps115
    go_wp2_with fail
    refine (escaped_rd h).mono ?_
    rintro e w2 ⟨rfl, h2, hk2⟩
    go_wp2_with fail
    go_ret
    exact ⟨rfl, h2, hk2⟩

theorem one'_rd {w : World} {g : RG} {fo : Bool} {st : RS} (h : RdAt w g fo (takeOf g lBack st)) :
    Calls Tryz.prog 115 #[.pointer (some ⟨g.b, 0, none⟩), .bool (inSet lBack (seeOf g st))] w fun e w' => e = .returned (.int .i32 (pOne' g st).2) ∧ RdAt w' g fo (pOne' g st).1 ∧ Kept g.own w w' := one_rd _ h

/-! ## how far each goes -/
theorem refuseOf_next (g : RG) (st : RS) : (refuseOf g st).next = g.rs.length := rfl
theorem note_next (st : RS) (e p : Int) : (st.note e p).next = st.next := rfl
theorem needSt_next (g : RG) (l : List UInt8) (st : RS) (h : st.next ≤ g.rs.length) : st.next ≤ (needSt g l st).next ∧ (needSt g l st).next ≤ g.rs.length ∧ (st.next < g.rs.length → st.next < (needSt g l st).next) := by
  unfold needSt
  cases hc : inSet l (seeOf g st)
  · simp [refuseOf_next]; exact h
  · have := seeOf_lt hc; simp; omega
theorem needOtherSt_next (g : RG) (l : List UInt8) (st : RS) (h : st.next ≤ g.rs.length) : st.next ≤ (needOtherSt g l st).next ∧ (needOtherSt g l st).next ≤ g.rs.length ∧ (st.next < g.rs.length → st.next < (needOtherSt g l st).next) := by
  unfold needOtherSt
  by_cases hc : seeOf g st = -1 ∨ inSet l (seeOf g st) = true
  · rw [if_pos hc]; simp [refuseOf_next]; exact h
  · rw [if_neg hc]; have := lt_of_see (fun e => hc (Or.inl e)); simp; omega
theorem takeOf_next (g : RG) (l : List UInt8) (st : RS) (h : st.next ≤ g.rs.length) : st.next ≤ (takeOf g l st).next ∧ (takeOf g l st).next ≤ g.rs.length := by
  unfold takeOf
  cases hc : inSet l (seeOf g st)
  · simp; exact h
  · have := seeOf_lt hc; simp; omega
theorem pOne_next (g : RG) (esc : Bool) (st : RS) (h : st.next ≤ g.rs.length) : st.next ≤ (pOne g esc st).1.next ∧ (pOne g esc st).1.next ≤ g.rs.length ∧ (st.next < g.rs.length → st.next < (pOne g esc st).1.next) := by
  unfold pOne
  cases esc
  · exact needOtherSt_next g _ st h
  · exact needSt_next g _ st h
theorem pOne'_next (g : RG) (st : RS) (h : st.next ≤ g.rs.length) : st.next ≤ (pOne' g st).1.next ∧ (pOne' g st).1.next ≤ g.rs.length ∧ (st.next < g.rs.length → st.next < (pOne' g st).1.next) := by
  have h1 := takeOf_next g lBack st h
  have h2 := pOne_next g (inSet lBack (seeOf g st)) (takeOf g lBack st) h1.2
  refine ⟨by show st.next ≤ (pOne g _ (takeOf g lBack st)).1.next; omega, h2.2.1, fun hlt => ?_⟩
  show st.next < (pOne g _ (takeOf g lBack st)).1.next
  cases hc : inSet lBack (seeOf g st)
  · have e : takeOf g lBack st = st := by simp [takeOf, hc]
    rw [hc, e] at h2; rw [e]; exact h2.2.2 hlt
  · have e : (takeOf g lBack st).next = st.next + 1 := by simp [takeOf, hc]
    rw [hc] at h2; omega
theorem pUpto_next (g : RG) (p : Int) (x : RS × Int) (h : x.1.next ≤ g.rs.length) : x.1.next ≤ (pUpto g p x).next ∧ (pUpto g p x).next ≤ g.rs.length := by
  unfold pUpto
  cases hc : inSet lDash (seeOf g x.1)
  · simp; exact h
  · have hl := seeOf_lt hc
    have h1 := pOne'_next g { x.1 with next := x.1.next + 1 } (by simp; omega)
    simp only at h1
    simp only [if_true]
    split
    · simp only [note_next]; omega
    · omega
theorem pItem_next (g : RG) (st : RS) (h : st.next ≤ g.rs.length) : st.next ≤ (pItem g st).next ∧ (pItem g st).next ≤ g.rs.length ∧ (st.next < g.rs.length → st.next < (pItem g st).next) := by
  unfold pItem
  by_cases hc : inSet lBack (seeOf g st) = true ∧ inSet lSets (seeOf g { st with next := st.next + 1 }) = true
  · rw [if_pos hc]; have := seeOf_lt hc.2; simp at *; omega
  · rw [if_neg hc]
    have h1 := pOne'_next g st h
    have h2 := pUpto_next g (placeOf g st) (pOne' g st) h1.2.1
    omega
theorem pItems_end (g : RG) (m : Nat) (st : RS) (h : seeOf g st = -1 ∨ inSet lSquare (seeOf g st) = true) : pItems g m st = st := by
  cases m with
  | zero => rfl
  | succ m => unfold pItems; rw [if_pos h]
theorem pItems_next (g : RG) : ∀ (m : Nat) (st : RS), st.next ≤ g.rs.length → st.next ≤ (pItems g m st).next ∧ (pItems g m st).next ≤ g.rs.length
  | 0, st, h => ⟨Nat.le_refl _, h⟩
  | m + 1, st, h => by
    unfold pItems
    split
    · exact ⟨Nat.le_refl _, h⟩
    · have h1 := pItem_next g st h
      have h2 := pItems_next g m (pItem g st) h1.2.1
      omega
theorem pClass_next (g : RG) (st : RS) (h : st.next ≤ g.rs.length) : st.next ≤ (pClass g st).next ∧ (pClass g st).next ≤ g.rs.length := by
  unfold pClass
  have h1 := takeOf_next g lCaret st h
  have h2 := pItem_next g _ h1.2
  have h3 := pItems_next g (g.rs.length + 1) _ h2.2.1
  have h4 := needSt_next g lSquare _ h3.2
  omega

set_option maxRecDepth 100000

theorem pLetters_end (g : RG) (first m : Nat) (st : RS) (h : ¬ (st.next < first + 8 ∧ inSet lLetters (seeOf g st) = true)) : pLetters g first m st = st := by
  cases m with
  | zero => rfl
  | succ m => unfold pLetters; rw [if_neg h]
theorem pLetters_next (g : RG) (first : Nat) : ∀ (m : Nat) (st : RS), st.next ≤ g.rs.length → st.next ≤ (pLetters g first m st).next ∧ (pLetters g first m st).next ≤ g.rs.length
  | 0, st, h => ⟨Nat.le_refl _, h⟩
  | m + 1, st, h => by
    unfold pLetters
    split
    · rename_i hc
      have hl := seeOf_lt hc.2
      have h2 := pLetters_next g first m { st with next := st.next + 1 } (by simp; omega)
      simp only at h2
      omega
    · exact ⟨Nat.le_refl _, h⟩
theorem pNamed_next (g : RG) (first : Nat) (st : RS) : (pNamed g first st).next = st.next := by unfold pNamed; split <;> rfl
theorem pName_next (g : RG) (st : RS) (h : st.next ≤ g.rs.length) : st.next ≤ (pName g st).next ∧ (pName g st).next ≤ g.rs.length := by
  unfold pName
  have h1 := needSt_next g lLetters st h
  have h2 := pLetters_next g st.next (g.rs.length + 9) _ h1.2.1
  have h3 := pNamed_next g st.next (pLetters g st.next (g.rs.length + 9) (needSt g lLetters st))
  have h4 := needSt_next g lGreater (pNamed g st.next (pLetters g st.next (g.rs.length + 9) (needSt g lLetters st))) (by omega)
  omega
theorem needSt_same (g : RG) (l : List UInt8) (st : RS) : (needSt g l st).groups = st.groups ∧ (needSt g l st).names = st.names := by
  unfold needSt; split <;> exact ⟨rfl, rfl⟩
theorem name_size (g : RG) (a b : Nat) (hb : b ≤ g.rs.length) (hl : g.rs.length ≤ 300) : (runesBytes ((g.rs.take b).drop a)).size ≤ maxLen := by
  have h1 := runesBytes_size_le ((g.rs.take b).drop a)
  have h2 : ((g.rs.take b).drop a).length ≤ 300 := by simp; omega
  unfold maxLen; omega

theorem name_conv {w : World} (g : RG) (a b : Nat) (hcr : g.rs.length ≤ g.cr) (hab : a ≤ b) (hb : b ≤ g.rs.length) (hc : ∀ i, i < g.rs.length → w.cell? ⟨g.br, i, none⟩ = some (.int .i32 (g.rs.getD i 0))) :
    (convert 77 9 (.slice (if g.cr = a then some ⟨g.br, 0, none⟩ else some ⟨g.br, a, none⟩) (b - a) (g.cr - a))).run Tryz.prog w = .ok (.string (runesBytes ((g.rs.take b).drop a))) w := by
  by_cases h : g.cr = a
  · have e : (g.rs.take b).drop a = [] := by simp; omega
    rw [if_pos h, e]
    have := run_convert_runes (P := Tryz.prog) w 77 9 21 ⟨g.br, 0, none⟩ (b - a) (g.cr - a) [] (by simp; omega) Tryz.underlying77 Tryz.underlying21 Tryz.underlying9 (fun j hj => by simp at hj)
    simpa using this
  · rw [if_neg h]
    have := run_convert_runes (P := Tryz.prog) w 77 9 21 ⟨g.br, a, none⟩ (b - a) (g.cr - a) ((g.rs.take b).drop a) (by simp; omega) Tryz.underlying77 Tryz.underlying21 Tryz.underlying9 (fun j hj => by
      have hj' : a + j < b := by simp at hj; omega
      have hadd : (Addr.add ⟨g.br, a, none⟩ j) = ⟨g.br, a + j, none⟩ := by
        unfold Addr.add
        split
        · rename_i hz; simp
        · rfl
      rw [hadd, hc (a + j) (by omega)]
      congr 2
      simp [List.getD, List.getElem?_drop, List.getElem?_take_of_lt hj'])
    rw [this, List.take_of_length_le (by simp; omega)]

set_option maxRecDepth 100000 in
set_option maxHeartbeats 1000000 in
theorem name_rd {w : World} {g : RG} {fo : Bool} {st : RS} (h : RdAt w g fo st) (h0 : 0 < g.rs.length) (hng : st.names.length < st.groups) :
    Calls Tryz.prog 101 #[.pointer (some ⟨g.b, 0, none⟩)] w fun e w' => e = .returned (.tuple #[]) ∧ RdAt w' g fo (pName g st) ∧ Kept g.own w w' := by
  have hnl := h.next
  have hl := h.len
  have c2 : w.cell? ⟨g.b, 2, none⟩ = some (.int .i64 st.next) := h.blk.cell 2
  go_enter Tryz.func101, Tryz.ntmps101
  go_wp2_with fail
  refine (needL h _ lLetters (by rfl) (by decide)).mono ?_
  rintro e w1 ⟨rfl, h1, hk1⟩
  clear c2
  go_wp2_with fail
  have hn1 := needSt_next g lLetters st hnl
  have hsm := needSt_same g lLetters st
  generalize hst : needSt g lLetters st = st0 at h1 hn1 hsm
  have HST : Hid (needSt g lLetters st = st0) := hst
  clear hst
  go_loopg [22] (g.rs.length - st0.next) (fun k _ wr => ∃ st1 m, RdAt wr g fo st1 ∧ Hid (pLetters g st.next m st1 = pLetters g st.next (g.rs.length + 9) st0) ∧ k = g.rs.length - st1.next ∧ k < m ∧ st.next ≤ st1.next ∧ Hid (st1.groups = st0.groups ∧ st1.names = st0.names) ∧ Kept g.own w wr)
  case atStart => exact ⟨st0, g.rs.length + 9, h1, rfl, rfl, by omega, by omega, ⟨rfl, rfl⟩, hk1⟩
  case round =>
    obtain ⟨st1, m, hr, HP, rfl, hm, hge, HG, hk⟩ := hrel
    have hle := hr.next
    clear h1 hk1
    have c2 : wr.cell? ⟨g.b, 2, none⟩ = some (.int .i64 st1.next) := hr.blk.cell 2
    by_cases hgo : st1.next < st.next + 8 ∧ inSet lLetters (seeOf g st1) = true
    · obtain ⟨hlt8, hset⟩ := hgo
      have hlt := seeOf_lt hset
      go_wp2_with fail
      refine (seesL hr _ lLetters (by rfl) (by decide)).mono ?_
      rintro e w3 ⟨rfl, h3, hk3⟩
      rw [hset]
      have c3 : w3.cell? ⟨g.b, 2, none⟩ = some (.int .i64 st1.next) := h3.blk.cell 2
      have f3 : w3.frozen? ⟨g.b, 2, none⟩ = false := h3.blk.frozen 2
      go_wp2_with fail
      go_roundg (g.rs.length - (st1.next + 1))
      case measure => omega
      case rel =>
        have h4 := h3.setNext (st1.next + 1) (by omega) (by have := h3.groups; omega)
        refine ⟨{ st1 with next := st1.next + 1 }, m - 1, by simpa using h4, ?_, rfl, by omega, by simp; omega, HG, (hk.trans hk3).trans (own_setCell g 2 _)⟩
        rw [← HP.out]
        obtain ⟨m', rfl⟩ : ∃ m', m = m' + 1 := ⟨m - 1, by omega⟩
        show pLetters g st.next m' _ = pLetters g st.next (m' + 1) st1
        rw [show pLetters g st.next (m' + 1) st1 = if st1.next < st.next + 8 ∧ inSet lLetters (seeOf g st1) = true then pLetters g st.next m' { st1 with next := st1.next + 1 } else st1 from rfl, if_pos ⟨hlt8, hset⟩]
    · have hP := HP.out
      rw [pLetters_end g st.next m st1 hgo] at hP
      have HP2 : Hid (st1 = pLetters g st.next (g.rs.length + 9) st0) := hP
      clear hP HP c2
      have hao := hr.isSome h0
      by_cases h8 : st1.next < st.next + 8
      · have hs : inSet lLetters (seeOf g st1) = false := by
          cases hs : inSet lLetters (seeOf g st1)
          · rfl
          · exact absurd ⟨h8, hs⟩ hgo
        clear hgo
        have c2 : wr.cell? ⟨g.b, 2, none⟩ = some (.int .i64 st1.next) := hr.blk.cell 2
        go_wp2_with fail
        refine (seesL hr _ lLetters (by rfl) (by decide)).mono ?_
        rintro e w3 ⟨rfl, h3, hk3⟩
        rw [hs]
        clear c2
        have hk' := hk.trans hk3
        have hap := h3.apart
        have hcr := h3.capr
        have c0 : w3.cell? ⟨g.b, 0, none⟩ = some (.slice (some ⟨g.br, 0, none⟩) g.rs.length g.cr) := by rw [← hao]; exact h3.blk.cell 0
        have c1 : w3.cell? ⟨g.b, 1, none⟩ = some (.slice (some ⟨g.bp, 0, none⟩) (g.rs.length + 1) g.cp) := h3.blk.cell 1
        have c2 : w3.cell? ⟨g.b, 2, none⟩ = some (.int .i64 st1.next) := h3.blk.cell 2
        have c4 : w3.cell? ⟨g.b, 5, none⟩ = some (.int .i64 st1.groups) := h3.blk.cell 5
        have c5 : w3.cell? ⟨g.b, 6, none⟩ = some (.map (some g.bn)) := h3.blk.cell 6
        have hconv := name_conv (w := w3.drew) g st.next st1.next hcr hge hle (fun i hi => h3.runes i hi)
        have hle1 : st1.next ≤ g.cr := by omega
        have hsz := name_size g st.next st1.next hle hl
        generalize hkb : runesBytes ((g.rs.take st1.next).drop st.next) = kb at hconv hsz
        have HKB : Hid (runesBytes ((g.rs.take st1.next).drop st.next) = kb) := hkb
        clear hkb
        obtain ⟨D, hD, hN⟩ := h3.nm
        have hkey : keyOf Tryz.prog 9 (.string kb) = some (.string kb.data.toList) := Go.WideMaps.keyOf_string_mk Tryz.underlying9 hsz
        have hDs : Maps.size D < maxLen := by rw [hN.size]; have := h3.names; have := h3.groups; unfold maxLen; omega
        cases hhad : st1.names.any (fun p => p.1 == kb.data.toList)
        · have hh : has D (.string kb.data.toList) = false := by rw [hN.has]; exact hhad
          have hgr : st1.groups ≤ 300 := by have := h3.groups; omega
          obtain ⟨w4, hrun, hown4, hgrow4⟩ := (hD.drew.drew).update (t := 57) (e := 3) lawStr Tryz.underlying57 hDs hkey (plainElem_int (H := Unit) (a := (st1.groups : Int)) Tryz.underlying3 (WalkArith.wf_i64 (by omega)))
          go_wp2_with fail
          go_region
          all_goals go_wp2_with (at_lookup; refine wpList_lookup_own_ok_int _ rfl _ _ 57 rfl 9 3 .i64 lawStr Tryz.underlying57 Tryz.underlying3 (zeroInt _) g.bn _ D rfl hD.drew _ _ rfl hkey ?_; intro c hat hwc)
          all_goals go_region
          all_goals go_wp2_with fail
          all_goals
            have hN4 := hN.put (hD.tidy lawStr) kb.data.toList st1.groups hhad
            have hk4 : Kept (fun i => i = g.bn) w3 w4 := ((Kept.refl _ _).drew.drew).grown hgrow4 (fun k hk => Or.inl (by cases hk; rfl))
            have e4 : Maps.size (D.put (.string kb.data.toList) (.lit (.int .i64 st1.groups))) = Maps.size D + 1 := by rw [hN4.size, hN.size]; simp
            have h4 := h3.named _ (e4 ▸ hown4) hN4 hk4 (by have := HG.out; simp only [List.length_cons]; rw [this.2, this.1, hsm.2, hsm.1]; omega)
            have hk5 : Kept g.own w w4 := hk'.trans (hk4.mono (fun i hi => by simp [RG.own, hi]))
            have EN : Hid (pNamed g st.next st1 = { st1 with names := (kb.data.toList, st1.groups) :: st1.names }) := by
              show pNamed g st.next st1 = _
              unfold pNamed runesToBytes
              rw [HKB.out, hhad]; rfl
            clear hrun hown4 hgrow4 hD hconv
            refine (needL h4 _ lGreater (by rfl) (by decide)).mono ?_
            rintro e w5 ⟨rfl, h5, hk6⟩
            go_wp2_with fail
            go_end0
            refine ⟨rfl, ?_, hk5.trans hk6⟩
            unfold pName
            rw [HST.out, ← HP2.out, EN.out]
            exact h5
        · have hh : has D (.string kb.data.toList) = true := by rw [hN.has]; exact hhad
          have cpl := h3.places st.next (by omega)
          have hlt9 : st.next < g.rs.length + 1 := by omega
          have hpr := h3.prange st.next
          go_wp2_with fail
          go_region
          all_goals go_wp2_with (at_lookup; refine wpList_lookup_own_ok_int _ rfl _ _ 57 rfl 9 3 .i64 lawStr Tryz.underlying57 Tryz.underlying3 (zeroInt _) g.bn _ D rfl hD.drew _ _ rfl hkey ?_; intro c hat hwc)
          all_goals
            have h4 := h3.nil (Kept.refl Nil w3).drew
            have EN : Hid (pNamed g st.next st1 = st1.note 6 (g.ps.getD st.next 0)) := by
              show pNamed g st.next st1 = _
              unfold pNamed runesToBytes
              rw [HKB.out, hhad]; rfl
            clear hD hconv
            refine (note_any h4 6 _ (by omega) hpr).mono ?_
            rintro e w5 ⟨rfl, h5, hk6⟩
            go_wp2_with fail
            refine (needL h5 _ lGreater (by rfl) (by decide)).mono ?_
            rintro e w6 ⟨rfl, h6, hk7⟩
            go_wp2_with fail
            go_end0
            refine ⟨rfl, ?_, (hk'.drew.trans hk6).trans hk7⟩
            unfold pName
            rw [HST.out, ← HP2.out, EN.out]
            exact h6
      · have h3 := hr
        obtain ⟨w3, hw3⟩ : ∃ w3, w3 = wr := ⟨_, rfl⟩
        have hk' := hk
        rw [← hw3] at h3 hk' ⊢
        have hw3' := hw3
        clear hw3' hgo
        subst hw3
        have hap := h3.apart
        have hcr := h3.capr
        have c0 : w3.cell? ⟨g.b, 0, none⟩ = some (.slice (some ⟨g.br, 0, none⟩) g.rs.length g.cr) := by rw [← hao]; exact h3.blk.cell 0
        have c1 : w3.cell? ⟨g.b, 1, none⟩ = some (.slice (some ⟨g.bp, 0, none⟩) (g.rs.length + 1) g.cp) := h3.blk.cell 1
        have c2 : w3.cell? ⟨g.b, 2, none⟩ = some (.int .i64 st1.next) := h3.blk.cell 2
        have c4 : w3.cell? ⟨g.b, 5, none⟩ = some (.int .i64 st1.groups) := h3.blk.cell 5
        have c5 : w3.cell? ⟨g.b, 6, none⟩ = some (.map (some g.bn)) := h3.blk.cell 6
        have hconv := name_conv (w := w3.drew) g st.next st1.next hcr hge hle (fun i hi => h3.runes i hi)
        have hle1 : st1.next ≤ g.cr := by omega
        have hsz := name_size g st.next st1.next hle hl
        generalize hkb : runesBytes ((g.rs.take st1.next).drop st.next) = kb at hconv hsz
        have HKB : Hid (runesBytes ((g.rs.take st1.next).drop st.next) = kb) := hkb
        clear hkb
        obtain ⟨D, hD, hN⟩ := h3.nm
        have hkey : keyOf Tryz.prog 9 (.string kb) = some (.string kb.data.toList) := Go.WideMaps.keyOf_string_mk Tryz.underlying9 hsz
        have hDs : Maps.size D < maxLen := by rw [hN.size]; have := h3.names; have := h3.groups; unfold maxLen; omega
        cases hhad : st1.names.any (fun p => p.1 == kb.data.toList)
        · have hh : has D (.string kb.data.toList) = false := by rw [hN.has]; exact hhad
          have hgr : st1.groups ≤ 300 := by have := h3.groups; omega
          obtain ⟨w4, hrun, hown4, hgrow4⟩ := (hD.drew.drew).update (t := 57) (e := 3) lawStr Tryz.underlying57 hDs hkey (plainElem_int (H := Unit) (a := (st1.groups : Int)) Tryz.underlying3 (WalkArith.wf_i64 (by omega)))
          go_wp2_with fail
          go_region
          all_goals go_wp2_with (at_lookup; refine wpList_lookup_own_ok_int _ rfl _ _ 57 rfl 9 3 .i64 lawStr Tryz.underlying57 Tryz.underlying3 (zeroInt _) g.bn _ D rfl hD.drew _ _ rfl hkey ?_; intro c hat hwc)
          all_goals go_region
          all_goals go_wp2_with fail
          all_goals
            have hN4 := hN.put (hD.tidy lawStr) kb.data.toList st1.groups hhad
            have hk4 : Kept (fun i => i = g.bn) w3 w4 := ((Kept.refl _ _).drew.drew).grown hgrow4 (fun k hk => Or.inl (by cases hk; rfl))
            have e4 : Maps.size (D.put (.string kb.data.toList) (.lit (.int .i64 st1.groups))) = Maps.size D + 1 := by rw [hN4.size, hN.size]; simp
            have h4 := h3.named _ (e4 ▸ hown4) hN4 hk4 (by have := HG.out; simp only [List.length_cons]; rw [this.2, this.1, hsm.2, hsm.1]; omega)
            have hk5 : Kept g.own w w4 := hk'.trans (hk4.mono (fun i hi => by simp [RG.own, hi]))
            have EN : Hid (pNamed g st.next st1 = { st1 with names := (kb.data.toList, st1.groups) :: st1.names }) := by
              show pNamed g st.next st1 = _
              unfold pNamed runesToBytes
              rw [HKB.out, hhad]; rfl
            clear hrun hown4 hgrow4 hD hconv
            refine (needL h4 _ lGreater (by rfl) (by decide)).mono ?_
            rintro e w5 ⟨rfl, h5, hk6⟩
            go_wp2_with fail
            go_end0
            refine ⟨rfl, ?_, hk5.trans hk6⟩
            unfold pName
            rw [HST.out, ← HP2.out, EN.out]
            exact h5
        · have hh : has D (.string kb.data.toList) = true := by rw [hN.has]; exact hhad
          have cpl := h3.places st.next (by omega)
          have hlt9 : st.next < g.rs.length + 1 := by omega
          have hpr := h3.prange st.next
          go_wp2_with fail
          go_region
          all_goals go_wp2_with (at_lookup; refine wpList_lookup_own_ok_int _ rfl _ _ 57 rfl 9 3 .i64 lawStr Tryz.underlying57 Tryz.underlying3 (zeroInt _) g.bn _ D rfl hD.drew _ _ rfl hkey ?_; intro c hat hwc)
          all_goals
            have h4 := h3.nil (Kept.refl Nil w3).drew
            have EN : Hid (pNamed g st.next st1 = st1.note 6 (g.ps.getD st.next 0)) := by
              show pNamed g st.next st1 = _
              unfold pNamed runesToBytes
              rw [HKB.out, hhad]; rfl
            clear hD hconv
            refine (note_any h4 6 _ (by omega) hpr).mono ?_
            rintro e w5 ⟨rfl, h5, hk6⟩
            go_wp2_with fail
            refine (needL h5 _ lGreater (by rfl) (by decide)).mono ?_
            rintro e w6 ⟨rfl, h6, hk7⟩
            go_wp2_with fail
            go_end0
            refine ⟨rfl, ?_, (hk'.drew.trans hk6).trans hk7⟩
            unfold pName
            rw [HST.out, ← HP2.out, EN.out]
            exact h6
end Go.Proofs.YtnbfddjaonlmaaaGreatDoor
