/- The reader of the program: digit, number, bounds, one, item, class, name: each does what its mirror says. -/
import Derived.Test.YtagehbmipookbaaGreatDoorPm
import Derived.Deep.LoopGhost
namespace Go.Proofs.YtagehbmipookbaaGreatDoor
open Go.RowKit Go.Maps
set_option linter.unusedVariables false
set_option maxRecDepth 100000

theorem seesL {w : World} {g : RG} {fo : Bool} {st : RS} (h : RdAt w g fo st) (s : ByteArray) (l : List UInt8) (hl : s.data.toList = l) (hs : ∀ b ∈ l, b.toNat < 128) :
    Calls Tryz.prog 52 #[.pointer (some ⟨g.b, 0, none⟩), .string s] w fun e w' => e = .returned (.bool (inSet l (seeOf g st))) ∧ RdAt w' g fo st ∧ Kept g.own w w' := by
  subst hl; exact (sees_any h s hs).mono fun e w' ⟨he, hk⟩ => ⟨he, h.nil hk, hk.mono (fun _ hx => hx.elim)⟩
theorem seeL {w : World} {g : RG} {fo : Bool} {st : RS} (h : RdAt w g fo st) :
    Calls Tryz.prog 28 #[.pointer (some ⟨g.b, 0, none⟩)] w fun e w' => e = .returned (.int .i32 (seeOf g st)) ∧ RdAt w' g fo st ∧ Kept g.own w w' :=
  (see_any h).mono fun e w' ⟨he, hk⟩ => ⟨he, h.nil hk, hk.mono (fun _ hx => hx.elim)⟩
theorem placeL {w : World} {g : RG} {fo : Bool} {st : RS} (h : RdAt w g fo st) :
    Calls Tryz.prog 43 #[.pointer (some ⟨g.b, 0, none⟩)] w fun e w' => e = .returned (.int .i64 (placeOf g st)) ∧ RdAt w' g fo st ∧ Kept g.own w w' :=
  (place_any h).mono fun e w' ⟨he, hk⟩ => ⟨he, h.nil hk, hk.mono (fun _ hx => hx.elim)⟩
theorem takeY {w : World} {g : RG} {fo : Bool} {st : RS} (h : RdAt w g fo st) (s : ByteArray) (l : List UInt8) (hl : s.data.toList = l) (hs : ∀ b ∈ l, b.toNat < 128) (hy : inSet l (seeOf g st) = true) :
    Calls Tryz.prog 42 #[.pointer (some ⟨g.b, 0, none⟩), .string s] w fun e w' => e = .returned (.bool true) ∧ RdAt w' g fo { st with next := st.next + 1 } ∧ Kept g.own w w' := by
  subst hl; exact take_yes h s hs hy
theorem takeN {w : World} {g : RG} {fo : Bool} {st : RS} (h : RdAt w g fo st) (s : ByteArray) (l : List UInt8) (hl : s.data.toList = l) (hs : ∀ b ∈ l, b.toNat < 128) (hy : inSet l (seeOf g st) = false) :
    Calls Tryz.prog 42 #[.pointer (some ⟨g.b, 0, none⟩), .string s] w fun e w' => e = .returned (.bool false) ∧ RdAt w' g fo st ∧ Kept g.own w w' := by
  subst hl; exact take_no h s hs hy
theorem takeL {w : World} {g : RG} {fo : Bool} {st : RS} (h : RdAt w g fo st) (s : ByteArray) (l : List UInt8) (hl : s.data.toList = l) (hs : ∀ b ∈ l, b.toNat < 128) :
    Calls Tryz.prog 42 #[.pointer (some ⟨g.b, 0, none⟩), .string s] w fun e w' => e = .returned (.bool (inSet l (seeOf g st))) ∧ RdAt w' g fo (takeOf g l st) ∧ Kept g.own w w' := by
  subst hl; exact take_any h s hs
theorem needL {w : World} {g : RG} {fo : Bool} {st : RS} (h : RdAt w g fo st) (s : ByteArray) (l : List UInt8) (hl : s.data.toList = l) (hs : ∀ b ∈ l, b.toNat < 128) :
    Calls Tryz.prog 65 #[.pointer (some ⟨g.b, 0, none⟩), .string s] w fun e w' => e = .returned (.tuple #[]) ∧ RdAt w' g fo (needSt g l st) ∧ Kept g.own w w' := by
  subst hl; exact needSt_any h s hs
theorem needOtherL {w : World} {g : RG} {fo : Bool} {st : RS} (h : RdAt w g fo st) (s : ByteArray) (l : List UInt8) (hl : s.data.toList = l) (hs : ∀ b ∈ l, b.toNat < 128) :
    Calls Tryz.prog 62 #[.pointer (some ⟨g.b, 0, none⟩), .string s] w fun e w' => e = .returned (.int .i32 (seeOf g st)) ∧ RdAt w' g fo (needOtherSt g l st) ∧ Kept g.own w w' := by
  subst hl; exact needOther_any h s hs

/-! ## digit, number, bounds -/
theorem pDigit_range (g : RG) (st : RS) : 0 ≤ (pDigit g st).2 ∧ (pDigit g st).2 ≤ 9 := by
  unfold pDigit
  cases h : inSet lDigits (seeOf g st)
  · simp
  · have := inSet_digits h; simp; omega

theorem digit_rd {w : World} {g : RG} {fo : Bool} {st : RS} (h : RdAt w g fo st) :
    Calls Tryz.prog 79 #[.pointer (some ⟨g.b, 0, none⟩)] w fun e w' => e = .returned (.int .i64 (pDigit g st).2) ∧ RdAt w' g fo (pDigit g st).1 ∧ Kept g.own w w' := by
  unfold pDigit
  cases hy : inSet lDigits (seeOf g st)
  · go_enter Tryz.func79, Tryz.ntmps79
    go_wp2_with fail
    refine (seeL h).mono ?_
    rintro e w1 ⟨rfl, h1, hk1⟩
    go_wp2_with fail
    refine (takeN h1 _ lDigits (by rfl) (by decide) hy).mono ?_
    rintro e w2 ⟨rfl, h2, hk2⟩
    go_wp2_with fail
    refine (refuse_any h2).mono ?_
    rintro e w3 ⟨rfl, h3, hk3⟩
    go_wp2_with fail
    go_ret
    exact ⟨rfl, h3, (hk1.trans hk2).trans hk3⟩
  · have hd := inSet_digits hy
    go_enter Tryz.func79, Tryz.ntmps79
    go_wp2_with fail
    refine (seeL h).mono ?_
    rintro e w1 ⟨rfl, h1, hk1⟩
    go_wp2_with fail
    refine (takeY h1 _ lDigits (by rfl) (by decide) hy).mono ?_
    rintro e w2 ⟨rfl, h2, hk2⟩
    obtain ⟨d, hd0, hd1, hd2⟩ : ∃ d : Int, seeOf g st = d + 48 ∧ 0 ≤ d ∧ d ≤ 9 := ⟨seeOf g st - 48, by omega, by omega, by omega⟩
    have HD : Hid (seeOf g st = d + 48) := hd0
    rw [hd0]
    clear hd hd0 hy
    go_wp2_with fail
    go_ret
    exact ⟨by rw [HD.out]; simp, h2, hk1.trans hk2⟩

theorem number_rd {w : World} {g : RG} {fo : Bool} {st : RS} (h : RdAt w g fo st) :
    Calls Tryz.prog 64 #[.pointer (some ⟨g.b, 0, none⟩)] w fun e w' => e = .returned (.int .i64 (pNumber g st).2) ∧ RdAt w' g fo (pNumber g st).1 ∧ Kept g.own w w' := by
  have r1 := pDigit_range g st
  have r2 := pDigit_range g (pDigit g st).1
  unfold pNumber
  by_cases hp : 0 < (pDigit g st).2
  · cases hy : inSet lDigits (seeOf g (pDigit g st).1)
    · rw [if_neg (by simp)]
      go_enter Tryz.func64, Tryz.ntmps64
      go_wp2_with fail
      refine (digit_rd h).mono ?_
      rintro e w1 ⟨rfl, h1, hk1⟩
      go_wp2_with fail
      refine (seesL h1 _ lDigits (by rfl) (by decide)).mono ?_
      rintro e w2 ⟨rfl, h2, hk2⟩
      rw [hy]
      go_wp2_with fail
      go_ret
      exact ⟨rfl, h2, hk1.trans hk2⟩
    · rw [if_pos ⟨hp, rfl⟩]
      go_enter Tryz.func64, Tryz.ntmps64
      go_wp2_with fail
      refine (digit_rd h).mono ?_
      rintro e w1 ⟨rfl, h1, hk1⟩
      go_wp2_with fail
      refine (seesL h1 _ lDigits (by rfl) (by decide)).mono ?_
      rintro e w2 ⟨rfl, h2, hk2⟩
      rw [hy]
      go_wp2_with fail
      refine (digit_rd h2).mono ?_
      rintro e w3 ⟨rfl, h3, hk3⟩
      go_wp2_with fail
      go_ret
      exact ⟨rfl, h3, (hk1.trans hk2).trans hk3⟩
  · rw [if_neg (by simp [hp])]
    go_enter Tryz.func64, Tryz.ntmps64
    go_wp2_with fail
    refine (digit_rd h).mono ?_
    rintro e w1 ⟨rfl, h1, hk1⟩
    go_wp2_with fail
    go_ret
    exact ⟨rfl, h1, hk1⟩

theorem pNumber_range (g : RG) (st : RS) : 0 ≤ (pNumber g st).2 ∧ (pNumber g st).2 ≤ 99 := by
  have r1 := pDigit_range g st
  have r2 := pDigit_range g (pDigit g st).1
  unfold pNumber
  split
  · simp; omega
  · omega

theorem bounds_rd {w : World} {g : RG} {fo : Bool} {st : RS} (h : RdAt w g fo st) :
    Calls Tryz.prog 56 #[.pointer (some ⟨g.b, 0, none⟩)] w fun e w' => e = .returned (.tuple #[.int .i64 (pBounds g st).2.1, .int .i64 (pBounds g st).2.2]) ∧ RdAt w' g fo (pBounds g st).1 ∧ Kept g.own w w' := by
  have r1 := pNumber_range g st
  have r2 := pNumber_range g { (pNumber g st).1 with next := (pNumber g st).1.next + 1 }
  unfold pBounds
  cases hc : inSet lComma (seeOf g (pNumber g st).1)
  · go_enter Tryz.func56, Tryz.ntmps56
    go_wp2_with fail
    refine (number_rd h).mono ?_
    rintro e w1 ⟨rfl, h1, hk1⟩
    go_wp2_with fail
    refine (takeN h1 _ lComma (by rfl) (by decide) hc).mono ?_
    rintro e w2 ⟨rfl, h2, hk2⟩
    go_wp2_with fail
    refine (needL h2 _ lBrace (by rfl) (by decide)).mono ?_
    rintro e w3 ⟨rfl, h3, hk3⟩
    go_wp2_with fail
    go_ret2
    exact ⟨rfl, h3, (hk1.trans hk2).trans hk3⟩
  · unfold pHigh
    cases hb : inSet lBrace (seeOf g { (pNumber g st).1 with next := (pNumber g st).1.next + 1 })
    · go_enter Tryz.func56, Tryz.ntmps56
      go_wp2_with fail
      refine (number_rd h).mono ?_
      rintro e w1 ⟨rfl, h1, hk1⟩
      go_wp2_with fail
      refine (takeY h1 _ lComma (by rfl) (by decide) hc).mono ?_
      rintro e w2 ⟨rfl, h2, hk2⟩
      go_wp2_with fail
      refine (seesL h2 _ lBrace (by rfl) (by decide)).mono ?_
      rintro e w3 ⟨rfl, h3, hk3⟩
      rw [hb]
      go_wp2_with fail
      refine (number_rd h3).mono ?_
      rintro e w4 ⟨rfl, h4, hk4⟩
      go_wp2_with fail
      refine (needL h4 _ lBrace (by rfl) (by decide)).mono ?_
      rintro e w5 ⟨rfl, h5, hk5⟩
      go_wp2_with fail
      go_ret2
      exact ⟨rfl, h5, (((hk1.trans hk2).trans hk3).trans hk4).trans hk5⟩
    · go_enter Tryz.func56, Tryz.ntmps56
      go_wp2_with fail
      refine (number_rd h).mono ?_
      rintro e w1 ⟨rfl, h1, hk1⟩
      go_wp2_with fail
      refine (takeY h1 _ lComma (by rfl) (by decide) hc).mono ?_
      rintro e w2 ⟨rfl, h2, hk2⟩
      go_wp2_with fail
      refine (seesL h2 _ lBrace (by rfl) (by decide)).mono ?_
      rintro e w3 ⟨rfl, h3, hk3⟩
      rw [hb]
      go_wp2_with fail
      refine (needL h3 _ lBrace (by rfl) (by decide)).mono ?_
      rintro e w5 ⟨rfl, h5, hk5⟩
      go_wp2_with fail
      go_ret2
      exact ⟨rfl, h5, ((hk1.trans hk2).trans hk3).trans hk5⟩

/-! ## escaped, one -/
theorem escaped_rd {w : World} {g : RG} {fo : Bool} {st : RS} (h : RdAt w g fo st) :
    Calls Tryz.prog 71 #[.pointer (some ⟨g.b, 0, none⟩)] w fun e w' => e = .returned (.int .i32 (escRune (seeOf g st))) ∧ RdAt w' g fo (needSt g lMarks st) ∧ Kept g.own w w' := by
  go_enter Tryz.func71, Tryz.ntmps71
  go_wp2_with fail
  refine (seeL h).mono ?_
  rintro e w1 ⟨rfl, h1, hk1⟩
  go_wp2_with fail
  refine (needL h1 _ lMarks (by rfl) (by decide)).mono ?_
  rintro e w2 ⟨rfl, h2, hk2⟩
  go_wp2_with fail
  all_goals go_ret
  all_goals refine ⟨?_, h2, hk1.trans hk2⟩
  all_goals (simp only [beq_iff_eq, beq_eq_false_iff_ne, ne_eq] at *; simp [escRune, *])

theorem one_rd {w : World} {g : RG} {fo : Bool} {st : RS} (esc : Bool) (h : RdAt w g fo st) :
    Calls Tryz.prog 80 #[.pointer (some ⟨g.b, 0, none⟩), .bool esc] w fun e w' => e = .returned (.int .i32 (pOne g esc st).2) ∧ RdAt w' g fo (pOne g esc st).1 ∧ Kept g.own w w' := by
  unfold pOne
  cases esc
  · go_enter Tryz.func80, Tryz.ntmps80
    go_wp2_with fail
    refine (needOtherL h _ lNotOne (by rfl) (by decide)).mono ?_
    rintro e w2 ⟨rfl, h2, hk2⟩
    go_wp2_with fail
    go_ret
    exact ⟨rfl, h2, hk2⟩
  · go_enter Tryz.func80, Tryz.ntmps80
    go_wp2_with fail
    refine (escaped_rd h).mono ?_
    rintro e w2 ⟨rfl, h2, hk2⟩
    go_wp2_with fail
    go_ret
    exact ⟨rfl, h2, hk2⟩

theorem one'_rd {w : World} {g : RG} {fo : Bool} {st : RS} (h : RdAt w g fo (takeOf g lBack st)) :
    Calls Tryz.prog 80 #[.pointer (some ⟨g.b, 0, none⟩), .bool (inSet lBack (seeOf g st))] w fun e w' => e = .returned (.int .i32 (pOne' g st).2) ∧ RdAt w' g fo (pOne' g st).1 ∧ Kept g.own w w' := one_rd _ h

/-! ## how far each goes -/
theorem refuseOf_next (g : RG) (st : RS) : (refuseOf g st).next = g.rs.length := rfl
theorem note_next (st : RS) (e p : Int) : (st.note e p).next = st.next := rfl
theorem needSt_next (g : RG) (l : List UInt8) (st : RS) (h : st.next ≤ g.rs.length) : st.next ≤ (needSt g l st).next ∧ (needSt g l st).next ≤ g.rs.length ∧ (st.next < g.rs.length → st.next < (needSt g l st).next) := by
  unfold needSt
  cases hc : inSet l (seeOf g st)
  · simp [refuseOf_next]; exact h
  · have := seeOf_lt hc; simp; omega
theorem needOtherSt_next (g : RG) (l : List UInt8) (st : RS) (h : st.next ≤ g.rs.length) : st.next ≤ (needOtherSt g l st).next ∧ (needOtherSt g l st).next ≤ g.rs.length ∧ (st.next < g.rs.length → st.next < (needOtherSt g l st).next) := by
  unfold needOtherSt
  by_cases hc : seeOf g st = -1 ∨ inSet l (seeOf g st) = true
  · rw [if_pos hc]; simp [refuseOf_next]; exact h
  · rw [if_neg hc]; have := lt_of_see (fun e => hc (Or.inl e)); simp; omega
theorem takeOf_next (g : RG) (l : List UInt8) (st : RS) (h : st.next ≤ g.rs.length) : st.next ≤ (takeOf g l st).next ∧ (takeOf g l st).next ≤ g.rs.length := by
  unfold takeOf
  cases hc : inSet l (seeOf g st)
  · simp; exact h
  · have := seeOf_lt hc; simp; omega
theorem pOne_next (g : RG) (esc : Bool) (st : RS) (h : st.next ≤ g.rs.length) : st.next ≤ (pOne g esc st).1.next ∧ (pOne g esc st).1.next ≤ g.rs.length ∧ (st.next < g.rs.length → st.next < (pOne g esc st).1.next) := by
  unfold pOne
  cases esc
  · exact needOtherSt_next g _ st h
  · exact needSt_next g _ st h
theorem pOne'_next (g : RG) (st : RS) (h : st.next ≤ g.rs.length) : st.next ≤ (pOne' g st).1.next ∧ (pOne' g st).1.next ≤ g.rs.length ∧ (st.next < g.rs.length → st.next < (pOne' g st).1.next) := by
  have h1 := takeOf_next g lBack st h
  have h2 := pOne_next g (inSet lBack (seeOf g st)) (takeOf g lBack st) h1.2
  refine ⟨by show st.next ≤ (pOne g _ (takeOf g lBack st)).1.next; omega, h2.2.1, fun hlt => ?_⟩
  show st.next < (pOne g _ (takeOf g lBack st)).1.next
  cases hc : inSet lBack (seeOf g st)
  · have e : takeOf g lBack st = st := by simp [takeOf, hc]
    rw [hc, e] at h2; rw [e]; exact h2.2.2 hlt
  · have e : (takeOf g lBack st).next = st.next + 1 := by simp [takeOf, hc]
    rw [hc] at h2; omega
theorem pUpto_next (g : RG) (p : Int) (x : RS × Int) (h : x.1.next ≤ g.rs.length) : x.1.next ≤ (pUpto g p x).next ∧ (pUpto g p x).next ≤ g.rs.length := by
  unfold pUpto
  cases hc : inSet lDash (seeOf g x.1)
  · simp; exact h
  · have hl := seeOf_lt hc
    have h1 := pOne'_next g { x.1 with next := x.1.next + 1 } (by simp; omega)
    simp only at h1
    simp only [if_true]
    split
    · simp only [note_next]; omega
    · omega
theorem pItem_next (g : RG) (st : RS) (h : st.next ≤ g.rs.length) : st.next ≤ (pItem g st).next ∧ (pItem g st).next ≤ g.rs.length ∧ (st.next < g.rs.length → st.next < (pItem g st).next) := by
  unfold pItem
  by_cases hc : inSet lBack (seeOf g st) = true ∧ inSet lSets (seeOf g { st with next := st.next + 1 }) = true
  · rw [if_pos hc]; have := seeOf_lt hc.2; simp at *; omega
  · rw [if_neg hc]
    have h1 := pOne'_next g st h
    have h2 := pUpto_next g (placeOf g st) (pOne' g st) h1.2.1
    omega
theorem pItems_end (g : RG) (m : Nat) (st : RS) (h : seeOf g st = -1 ∨ inSet lSquare (seeOf g st) = true) : pItems g m st = st := by
  cases m with
  | zero => rfl
  | succ m => unfold pItems; rw [if_pos h]
theorem pItems_next (g : RG) : ∀ (m : Nat) (st : RS), st.next ≤ g.rs.length → st.next ≤ (pItems g m st).next ∧ (pItems g m st).next ≤ g.rs.length
  | 0, st, h => ⟨Nat.le_refl _, h⟩
  | m + 1, st, h => by
    unfold pItems
    split
    · exact ⟨Nat.le_refl _, h⟩
    · have h1 := pItem_next g st h
      have h2 := pItems_next g m (pItem g st) h1.2.1
      omega
theorem pClass_next (g : RG) (st : RS) (h : st.next ≤ g.rs.length) : st.next ≤ (pClass g st).next ∧ (pClass g st).next ≤ g.rs.length := by
  unfold pClass
  have h1 := takeOf_next g lCaret st h
  have h2 := pItem_next g _ h1.2
  have h3 := pItems_next g (g.rs.length + 1) _ h2.2.1
  have h4 := needSt_next g lSquare _ h3.2
  omega

end Go.Proofs.YtagehbmipookbaaGreatDoor
