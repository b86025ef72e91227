/- The reader of the program: digit, number, bounds, one, item, class, name: each does what its mirror says. -/
import Derived.Test.YtlimhofdonkljaaPm
import Derived.Deep.LoopGhost
namespace Go.Proofs.Ytlimhofdonkljaa
open Go.RowKit Go.Maps
set_option linter.unusedVariables false

theorem seesL {w : World} {g : RG} {st : RS} (h : RdAt w g st) (s : ByteArray) (l : List UInt8) (hl : s.data.toList = l) (hs : ∀ b ∈ l, b.toNat < 128) :
    Calls Try.prog 52 #[.pointer (some ⟨g.b, 0, none⟩), .string s] w fun e w' => e = .returned (.bool (inSet l (seeOf g st))) ∧ RdAt w' g st ∧ Kept g.own w w' := by
  subst hl; exact (sees_any h s hs).mono fun e w' ⟨he, hk⟩ => ⟨he, h.nil hk, hk.mono (fun _ hx => hx.elim)⟩
theorem seeL {w : World} {g : RG} {st : RS} (h : RdAt w g st) :
    Calls Try.prog 28 #[.pointer (some ⟨g.b, 0, none⟩)] w fun e w' => e = .returned (.int .i32 (seeOf g st)) ∧ RdAt w' g st ∧ Kept g.own w w' :=
  (see_any h).mono fun e w' ⟨he, hk⟩ => ⟨he, h.nil hk, hk.mono (fun _ hx => hx.elim)⟩
theorem placeL {w : World} {g : RG} {st : RS} (h : RdAt w g st) :
    Calls Try.prog 43 #[.pointer (some ⟨g.b, 0, none⟩)] w fun e w' => e = .returned (.int .i64 (placeOf g st)) ∧ RdAt w' g st ∧ Kept g.own w w' :=
  (place_any h).mono fun e w' ⟨he, hk⟩ => ⟨he, h.nil hk, hk.mono (fun _ hx => hx.elim)⟩
theorem takeY {w : World} {g : RG} {st : RS} (h : RdAt w g st) (s : ByteArray) (l : List UInt8) (hl : s.data.toList = l) (hs : ∀ b ∈ l, b.toNat < 128) (hy : inSet l (seeOf g st) = true) :
    Calls Try.prog 42 #[.pointer (some ⟨g.b, 0, none⟩), .string s] w fun e w' => e = .returned (.bool true) ∧ RdAt w' g { st with next := st.next + 1 } ∧ Kept g.own w w' := by
  subst hl; exact take_yes h s hs hy
theorem takeN {w : World} {g : RG} {st : RS} (h : RdAt w g st) (s : ByteArray) (l : List UInt8) (hl : s.data.toList = l) (hs : ∀ b ∈ l, b.toNat < 128) (hy : inSet l (seeOf g st) = false) :
    Calls Try.prog 42 #[.pointer (some ⟨g.b, 0, none⟩), .string s] w fun e w' => e = .returned (.bool false) ∧ RdAt w' g st ∧ Kept g.own w w' := by
  subst hl; exact take_no h s hs hy
theorem takeL {w : World} {g : RG} {st : RS} (h : RdAt w g st) (s : ByteArray) (l : List UInt8) (hl : s.data.toList = l) (hs : ∀ b ∈ l, b.toNat < 128) :
    Calls Try.prog 42 #[.pointer (some ⟨g.b, 0, none⟩), .string s] w fun e w' => e = .returned (.bool (inSet l (seeOf g st))) ∧ RdAt w' g (takeOf g l st) ∧ Kept g.own w w' := by
  subst hl; exact take_any h s hs
theorem needL {w : World} {g : RG} {st : RS} (h : RdAt w g st) (s : ByteArray) (l : List UInt8) (hl : s.data.toList = l) (hs : ∀ b ∈ l, b.toNat < 128) :
    Calls Try.prog 59 #[.pointer (some ⟨g.b, 0, none⟩), .string s] w fun e w' => e = .returned (.tuple #[]) ∧ RdAt w' g (needSt g l st) ∧ Kept g.own w w' := by
  subst hl; exact needSt_any h s hs
theorem needOtherL {w : World} {g : RG} {st : RS} (h : RdAt w g st) (s : ByteArray) (l : List UInt8) (hl : s.data.toList = l) (hs : ∀ b ∈ l, b.toNat < 128) :
    Calls Try.prog 60 #[.pointer (some ⟨g.b, 0, none⟩), .string s] w fun e w' => e = .returned (.tuple #[]) ∧ RdAt w' g (needOtherSt g l st) ∧ Kept g.own w w' := by
  subst hl; exact needOther_any h s hs

/-! ## digit, number, bounds -/
theorem pDigit_range (g : RG) (st : RS) : 0 ≤ (pDigit g st).2 ∧ (pDigit g st).2 ≤ 9 := by
  unfold pDigit
  cases h : inSet lDigits (seeOf g st)
  · simp
  · have := inSet_digits h; simp; omega

theorem digit_rd {w : World} {g : RG} {st : RS} (h : RdAt w g st) :
    Calls Try.prog 69 #[.pointer (some ⟨g.b, 0, none⟩)] w fun e w' => e = .returned (.int .i64 (pDigit g st).2) ∧ RdAt w' g (pDigit g st).1 ∧ Kept g.own w w' := by
  unfold pDigit
  cases hy : inSet lDigits (seeOf g st)
  · go_enter Try.func69, Try.ntmps69
    go_wp2_with fail
    refine (seeL h).mono ?_
    rintro e w1 ⟨rfl, h1, hk1⟩
    go_wp2_with fail
    refine (takeN h1 _ lDigits (by rfl) (by decide) hy).mono ?_
    rintro e w2 ⟨rfl, h2, hk2⟩
    go_wp2_with fail
    refine (refuse_any h2).mono ?_
    rintro e w3 ⟨rfl, h3, hk3⟩
    go_wp2_with fail
    go_ret
    exact ⟨rfl, h3, (hk1.trans hk2).trans hk3⟩
  · have hd := inSet_digits hy
    go_enter Try.func69, Try.ntmps69
    go_wp2_with fail
    refine (seeL h).mono ?_
    rintro e w1 ⟨rfl, h1, hk1⟩
    go_wp2_with fail
    refine (takeY h1 _ lDigits (by rfl) (by decide) hy).mono ?_
    rintro e w2 ⟨rfl, h2, hk2⟩
    obtain ⟨d, hd0, hd1, hd2⟩ : ∃ d : Int, seeOf g st = d + 48 ∧ 0 ≤ d ∧ d ≤ 9 := ⟨seeOf g st - 48, by omega, by omega, by omega⟩
    have HD : Hid (seeOf g st = d + 48) := hd0
    rw [hd0]
    clear hd hd0 hy
    go_wp2_with fail
    go_ret
    exact ⟨by rw [HD.out]; simp, h2, hk1.trans hk2⟩

theorem number_rd {w : World} {g : RG} {st : RS} (h : RdAt w g st) :
    Calls Try.prog 62 #[.pointer (some ⟨g.b, 0, none⟩)] w fun e w' => e = .returned (.int .i64 (pNumber g st).2) ∧ RdAt w' g (pNumber g st).1 ∧ Kept g.own w w' := by
  have r1 := pDigit_range g st
  have r2 := pDigit_range g (pDigit g st).1
  unfold pNumber
  by_cases hp : 0 < (pDigit g st).2
  · cases hy : inSet lDigits (seeOf g (pDigit g st).1)
    · rw [if_neg (by simp)]
      go_enter Try.func62, Try.ntmps62
      go_wp2_with fail
      refine (digit_rd h).mono ?_
      rintro e w1 ⟨rfl, h1, hk1⟩
      go_wp2_with fail
      refine (seesL h1 _ lDigits (by rfl) (by decide)).mono ?_
      rintro e w2 ⟨rfl, h2, hk2⟩
      rw [hy]
      go_wp2_with fail
      go_ret
      exact ⟨rfl, h2, hk1.trans hk2⟩
    · rw [if_pos ⟨hp, rfl⟩]
      go_enter Try.func62, Try.ntmps62
      go_wp2_with fail
      refine (digit_rd h).mono ?_
      rintro e w1 ⟨rfl, h1, hk1⟩
      go_wp2_with fail
      refine (seesL h1 _ lDigits (by rfl) (by decide)).mono ?_
      rintro e w2 ⟨rfl, h2, hk2⟩
      rw [hy]
      go_wp2_with fail
      refine (digit_rd h2).mono ?_
      rintro e w3 ⟨rfl, h3, hk3⟩
      go_wp2_with fail
      go_ret
      exact ⟨rfl, h3, (hk1.trans hk2).trans hk3⟩
  · rw [if_neg (by simp [hp])]
    go_enter Try.func62, Try.ntmps62
    go_wp2_with fail
    refine (digit_rd h).mono ?_
    rintro e w1 ⟨rfl, h1, hk1⟩
    go_wp2_with fail
    go_ret
    exact ⟨rfl, h1, hk1⟩

theorem pNumber_range (g : RG) (st : RS) : 0 ≤ (pNumber g st).2 ∧ (pNumber g st).2 ≤ 99 := by
  have r1 := pDigit_range g st
  have r2 := pDigit_range g (pDigit g st).1
  unfold pNumber
  split
  · simp; omega
  · omega

theorem bounds_rd {w : World} {g : RG} {st : RS} (h : RdAt w g st) :
    Calls Try.prog 56 #[.pointer (some ⟨g.b, 0, none⟩)] w fun e w' => e = .returned (.tuple #[.int .i64 (pBounds g st).2.1, .int .i64 (pBounds g st).2.2]) ∧ RdAt w' g (pBounds g st).1 ∧ Kept g.own w w' := by
  have r1 := pNumber_range g st
  have r2 := pNumber_range g { (pNumber g st).1 with next := (pNumber g st).1.next + 1 }
  unfold pBounds
  cases hc : inSet lComma (seeOf g (pNumber g st).1)
  · go_enter Try.func56, Try.ntmps56
    go_wp2_with fail
    refine (number_rd h).mono ?_
    rintro e w1 ⟨rfl, h1, hk1⟩
    go_wp2_with fail
    refine (takeN h1 _ lComma (by rfl) (by decide) hc).mono ?_
    rintro e w2 ⟨rfl, h2, hk2⟩
    go_wp2_with fail
    refine (needL h2 _ lBrace (by rfl) (by decide)).mono ?_
    rintro e w3 ⟨rfl, h3, hk3⟩
    go_wp2_with fail
    go_ret2
    exact ⟨rfl, h3, (hk1.trans hk2).trans hk3⟩
  · unfold pHigh
    cases hb : inSet lBrace (seeOf g { (pNumber g st).1 with next := (pNumber g st).1.next + 1 })
    · go_enter Try.func56, Try.ntmps56
      go_wp2_with fail
      refine (number_rd h).mono ?_
      rintro e w1 ⟨rfl, h1, hk1⟩
      go_wp2_with fail
      refine (takeY h1 _ lComma (by rfl) (by decide) hc).mono ?_
      rintro e w2 ⟨rfl, h2, hk2⟩
      go_wp2_with fail
      refine (seesL h2 _ lBrace (by rfl) (by decide)).mono ?_
      rintro e w3 ⟨rfl, h3, hk3⟩
      rw [hb]
      go_wp2_with fail
      refine (number_rd h3).mono ?_
      rintro e w4 ⟨rfl, h4, hk4⟩
      go_wp2_with fail
      refine (needL h4 _ lBrace (by rfl) (by decide)).mono ?_
      rintro e w5 ⟨rfl, h5, hk5⟩
      go_wp2_with fail
      go_ret2
      exact ⟨rfl, h5, (((hk1.trans hk2).trans hk3).trans hk4).trans hk5⟩
    · go_enter Try.func56, Try.ntmps56
      go_wp2_with fail
      refine (number_rd h).mono ?_
      rintro e w1 ⟨rfl, h1, hk1⟩
      go_wp2_with fail
      refine (takeY h1 _ lComma (by rfl) (by decide) hc).mono ?_
      rintro e w2 ⟨rfl, h2, hk2⟩
      go_wp2_with fail
      refine (seesL h2 _ lBrace (by rfl) (by decide)).mono ?_
      rintro e w3 ⟨rfl, h3, hk3⟩
      rw [hb]
      go_wp2_with fail
      refine (needL h3 _ lBrace (by rfl) (by decide)).mono ?_
      rintro e w5 ⟨rfl, h5, hk5⟩
      go_wp2_with fail
      go_ret2
      exact ⟨rfl, h5, ((hk1.trans hk2).trans hk3).trans hk5⟩

/-! ## one, item, class -/
theorem one_rd {w : World} {g : RG} {st : RS} (esc : Bool) (h : RdAt w g st) :
    Calls Try.prog 70 #[.pointer (some ⟨g.b, 0, none⟩), .bool esc] w fun e w' => e = .returned (.int .i32 (pOne g esc st).2) ∧ RdAt w' g (pOne g esc st).1 ∧ Kept g.own w w' := by
  unfold pOne
  cases esc
  · go_enter Try.func70, Try.ntmps70
    go_wp2_with fail
    refine (seeL h).mono ?_
    rintro e w1 ⟨rfl, h1, hk1⟩
    go_wp2_with fail
    refine (needOtherL h1 _ lNotOne (by rfl) (by decide)).mono ?_
    rintro e w2 ⟨rfl, h2, hk2⟩
    go_wp2_with fail
    go_ret
    exact ⟨rfl, h2, hk1.trans hk2⟩
  · go_enter Try.func70, Try.ntmps70
    go_wp2_with fail
    refine (seeL h).mono ?_
    rintro e w1 ⟨rfl, h1, hk1⟩
    go_wp2_with fail
    refine (needL h1 _ lMarks (by rfl) (by decide)).mono ?_
    rintro e w2 ⟨rfl, h2, hk2⟩
    go_wp2_with fail
    all_goals go_ret
    all_goals refine ⟨?_, h2, hk1.trans hk2⟩
    all_goals (simp only [beq_iff_eq, beq_eq_false_iff_ne, ne_eq] at *; simp [escRune, *])

theorem one'_rd {w : World} {g : RG} {st : RS} (h : RdAt w g (takeOf g lBack st)) :
    Calls Try.prog 70 #[.pointer (some ⟨g.b, 0, none⟩), .bool (inSet lBack (seeOf g st))] w fun e w' => e = .returned (.int .i32 (pOne' g st).2) ∧ RdAt w' g (pOne' g st).1 ∧ Kept g.own w w' := one_rd _ h

/-- the rest of an item behind its first ONE is a walk of its own: region 4 on -/
theorem item_rd {w : World} {g : RG} {st : RS} (h : RdAt w g st) :
    Calls Try.prog 64 #[.pointer (some ⟨g.b, 0, none⟩)] w fun e w' => e = .returned (.tuple #[]) ∧ RdAt w' g (pItem g st) ∧ Kept g.own w w' := by
  have hp : 0 ≤ placeOf g st ∧ placeOf g st ≤ 300 := h.prange st.next
  unfold pItem
  by_cases hset : inSet lBack (seeOf g st) = true ∧ inSet lSets (seeOf g { st with next := st.next + 1 }) = true
  · rw [if_pos hset]
    obtain ⟨hb, hs⟩ := hset
    go_enter Try.func64, Try.ntmps64
    go_wp2_with fail
    refine (placeL h).mono ?_
    rintro e w1 ⟨rfl, h1, hk1⟩
    go_wp2_with fail
    refine (takeY h1 _ lBack (by rfl) (by decide) hb).mono ?_
    rintro e w2 ⟨rfl, h2, hk2⟩
    go_wp2_with fail
    refine (takeY h2 _ lSets (by rfl) (by decide) hs).mono ?_
    rintro e w3 ⟨rfl, h3, hk3⟩
    go_wp2_with fail
    refine bodyPost_ret (results_none rfl _ _ _) rfl ?_
    exact ⟨rfl, h3, (hk1.trans hk2).trans hk3⟩
  · rw [if_neg hset]
    cases hb : inSet lBack (seeOf g st)
    · have ex : pOne' g st = pOne g false (takeOf g lBack st) := by simp [pOne', hb]
      have et : takeOf g lBack st = st := by simp [takeOf, hb]
      rw [et] at ex
      clear et
      have EX : Hid (pOne' g st = pOne g false st) := ex
      clear ex
      go_enter Try.func64, Try.ntmps64
      go_wp2_with fail
      refine (placeL h).mono ?_
      rintro e w1 ⟨rfl, h1, hk1⟩
      go_wp2_with fail
      refine (takeN h1 _ lBack (by rfl) (by decide) hb).mono ?_
      rintro e w2 ⟨rfl, h2, hk2⟩
      go_wp2_with fail
      refine (one_rd false h2).mono ?_
      rintro e w4 ⟨rfl, h4, hk4⟩
      rw [← EX.out] at h4 ⊢
      go_wp2_with fail
      cases hd : inSet lDash (seeOf g (pOne' g st).1)
      · refine (takeN h4 _ lDash (by rfl) (by decide) hd).mono ?_
        rintro e w5 ⟨rfl, h5, hk5⟩
        go_wp2_with fail
        go_end0
        exact ⟨rfl, by unfold pUpto; rw [if_neg (by simp [hd])]; exact h5, ((hk1.trans hk2).trans hk4).trans hk5⟩
      · refine (takeY h4 _ lDash (by rfl) (by decide) hd).mono ?_
        rintro e w5 ⟨rfl, h5, hk5⟩
        go_wp2_with fail
        refine (takeL h5 _ lBack (by rfl) (by decide)).mono ?_
        rintro e w6 ⟨rfl, h6, hk6⟩
        go_wp2_with fail
        refine (one'_rd h6).mono ?_
        rintro e w7 ⟨rfl, h7, hk7⟩
        by_cases hlt : (pOne' g { (pOne' g st).1 with next := (pOne' g st).1.next + 1 }).2 < (pOne' g st).2
        · go_wp2_with fail
          refine (note_any h7 5 _ (by omega) hp).mono ?_
          rintro e w8 ⟨rfl, h8, hk8⟩
          go_wp2_with fail
          go_end0
          exact ⟨rfl, by unfold pUpto; rw [if_pos hd, if_pos hlt]; exact h8, ((((((hk1.trans hk2).trans hk4).trans hk5).trans hk6).trans hk7)).trans hk8⟩
        · go_wp2_with fail
          go_end0
          exact ⟨rfl, by unfold pUpto; rw [if_pos hd, if_neg (Int.not_lt.2 hlt)]; exact h7, (((((hk1.trans hk2).trans hk4).trans hk5).trans hk6).trans hk7)⟩
    · have hs : inSet lSets (seeOf g { st with next := st.next + 1 }) = false := by
        cases hs : inSet lSets (seeOf g { st with next := st.next + 1 })
        · rfl
        · exact absurd ⟨hb, hs⟩ hset
      have ex : pOne' g st = pOne g true (takeOf g lBack st) := by simp [pOne', hb]
      have et : takeOf g lBack st = { st with next := st.next + 1 } := by simp [takeOf, hb]
      rw [et] at ex
      clear et
      have EX : Hid (pOne' g st = pOne g true { st with next := st.next + 1 }) := ex
      clear ex
      go_enter Try.func64, Try.ntmps64
      go_wp2_with fail
      refine (placeL h).mono ?_
      rintro e w1 ⟨rfl, h1, hk1⟩
      go_wp2_with fail
      refine (takeY h1 _ lBack (by rfl) (by decide) hb).mono ?_
      rintro e w2 ⟨rfl, h2, hk2⟩
      go_wp2_with fail
      refine (takeN h2 _ lSets (by rfl) (by decide) hs).mono ?_
      rintro e w3 ⟨rfl, h3, hk3⟩
      go_wp2_with fail
      refine (one_rd true h3).mono ?_
      rintro e w4 ⟨rfl, h4, hk4⟩
      rw [← EX.out] at h4 ⊢
      go_wp2_with fail
      cases hd : inSet lDash (seeOf g (pOne' g st).1)
      · refine (takeN h4 _ lDash (by rfl) (by decide) hd).mono ?_
        rintro e w5 ⟨rfl, h5, hk5⟩
        go_wp2_with fail
        go_end0
        exact ⟨rfl, by unfold pUpto; rw [if_neg (by simp [hd])]; exact h5, (((hk1.trans hk2).trans hk3).trans hk4).trans hk5⟩
      · refine (takeY h4 _ lDash (by rfl) (by decide) hd).mono ?_
        rintro e w5 ⟨rfl, h5, hk5⟩
        go_wp2_with fail
        refine (takeL h5 _ lBack (by rfl) (by decide)).mono ?_
        rintro e w6 ⟨rfl, h6, hk6⟩
        go_wp2_with fail
        refine (one'_rd h6).mono ?_
        rintro e w7 ⟨rfl, h7, hk7⟩
        by_cases hlt : (pOne' g { (pOne' g st).1 with next := (pOne' g st).1.next + 1 }).2 < (pOne' g st).2
        · go_wp2_with fail
          refine (note_any h7 5 _ (by omega) hp).mono ?_
          rintro e w8 ⟨rfl, h8, hk8⟩
          go_wp2_with fail
          go_end0
          exact ⟨rfl, by unfold pUpto; rw [if_pos hd, if_pos hlt]; exact h8, (((((((hk1.trans hk2).trans hk3).trans hk4).trans hk5).trans hk6).trans hk7)).trans hk8⟩
        · go_wp2_with fail
          go_end0
          exact ⟨rfl, by unfold pUpto; rw [if_pos hd, if_neg (Int.not_lt.2 hlt)]; exact h7, ((((((hk1.trans hk2).trans hk3).trans hk4).trans hk5).trans hk6).trans hk7)⟩

/-! ## how far each goes -/
theorem refuseOf_next (g : RG) (st : RS) : (refuseOf g st).next = g.rs.length := rfl
theorem note_next (st : RS) (e p : Int) : (st.note e p).next = st.next := rfl
theorem needSt_next (g : RG) (l : List UInt8) (st : RS) (h : st.next ≤ g.rs.length) : st.next ≤ (needSt g l st).next ∧ (needSt g l st).next ≤ g.rs.length ∧ (st.next < g.rs.length → st.next < (needSt g l st).next) := by
  unfold needSt
  cases hc : inSet l (seeOf g st)
  · simp [refuseOf_next]; exact h
  · have := seeOf_lt hc; simp; omega
theorem needOtherSt_next (g : RG) (l : List UInt8) (st : RS) (h : st.next ≤ g.rs.length) : st.next ≤ (needOtherSt g l st).next ∧ (needOtherSt g l st).next ≤ g.rs.length ∧ (st.next < g.rs.length → st.next < (needOtherSt g l st).next) := by
  unfold needOtherSt
  by_cases hc : seeOf g st = -1 ∨ inSet l (seeOf g st) = true
  · rw [if_pos hc]; simp [refuseOf_next]; exact h
  · rw [if_neg hc]; have := lt_of_see (fun e => hc (Or.inl e)); simp; omega
theorem takeOf_next (g : RG) (l : List UInt8) (st : RS) (h : st.next ≤ g.rs.length) : st.next ≤ (takeOf g l st).next ∧ (takeOf g l st).next ≤ g.rs.length := by
  unfold takeOf
  cases hc : inSet l (seeOf g st)
  · simp; exact h
  · have := seeOf_lt hc; simp; omega
theorem pOne_next (g : RG) (esc : Bool) (st : RS) (h : st.next ≤ g.rs.length) : st.next ≤ (pOne g esc st).1.next ∧ (pOne g esc st).1.next ≤ g.rs.length ∧ (st.next < g.rs.length → st.next < (pOne g esc st).1.next) := by
  unfold pOne
  cases esc
  · exact needOtherSt_next g _ st h
  · exact needSt_next g _ st h
theorem pOne'_next (g : RG) (st : RS) (h : st.next ≤ g.rs.length) : st.next ≤ (pOne' g st).1.next ∧ (pOne' g st).1.next ≤ g.rs.length ∧ (st.next < g.rs.length → st.next < (pOne' g st).1.next) := by
  have h1 := takeOf_next g lBack st h
  have h2 := pOne_next g (inSet lBack (seeOf g st)) (takeOf g lBack st) h1.2
  refine ⟨by show st.next ≤ (pOne g _ (takeOf g lBack st)).1.next; omega, h2.2.1, fun hlt => ?_⟩
  show st.next < (pOne g _ (takeOf g lBack st)).1.next
  cases hc : inSet lBack (seeOf g st)
  · have e : takeOf g lBack st = st := by simp [takeOf, hc]
    rw [hc, e] at h2; rw [e]; exact h2.2.2 hlt
  · have e : (takeOf g lBack st).next = st.next + 1 := by simp [takeOf, hc]
    rw [hc] at h2; omega
theorem pUpto_next (g : RG) (p : Int) (x : RS × Int) (h : x.1.next ≤ g.rs.length) : x.1.next ≤ (pUpto g p x).next ∧ (pUpto g p x).next ≤ g.rs.length := by
  unfold pUpto
  cases hc : inSet lDash (seeOf g x.1)
  · simp; exact h
  · have hl := seeOf_lt hc
    have h1 := pOne'_next g { x.1 with next := x.1.next + 1 } (by simp; omega)
    simp only at h1
    simp only [if_true]
    split
    · simp only [note_next]; omega
    · omega
theorem pItem_next (g : RG) (st : RS) (h : st.next ≤ g.rs.length) : st.next ≤ (pItem g st).next ∧ (pItem g st).next ≤ g.rs.length ∧ (st.next < g.rs.length → st.next < (pItem g st).next) := by
  unfold pItem
  by_cases hc : inSet lBack (seeOf g st) = true ∧ inSet lSets (seeOf g { st with next := st.next + 1 }) = true
  · rw [if_pos hc]; have := seeOf_lt hc.2; simp at *; omega
  · rw [if_neg hc]
    have h1 := pOne'_next g st h
    have h2 := pUpto_next g (placeOf g st) (pOne' g st) h1.2.1
    omega
theorem pItems_end (g : RG) (m : Nat) (st : RS) (h : seeOf g st = -1 ∨ inSet lSquare (seeOf g st) = true) : pItems g m st = st := by
  cases m with
  | zero => rfl
  | succ m => unfold pItems; rw [if_pos h]
theorem pItems_next (g : RG) : ∀ (m : Nat) (st : RS), st.next ≤ g.rs.length → st.next ≤ (pItems g m st).next ∧ (pItems g m st).next ≤ g.rs.length
  | 0, st, h => ⟨Nat.le_refl _, h⟩
  | m + 1, st, h => by
    unfold pItems
    split
    · exact ⟨Nat.le_refl _, h⟩
    · have h1 := pItem_next g st h
      have h2 := pItems_next g m (pItem g st) h1.2.1
      omega
theorem pClass_next (g : RG) (st : RS) (h : st.next ≤ g.rs.length) : st.next ≤ (pClass g st).next ∧ (pClass g st).next ≤ g.rs.length := by
  unfold pClass
  have h1 := takeOf_next g lCaret st h
  have h2 := pItem_next g _ h1.2
  have h3 := pItems_next g (g.rs.length + 1) _ h2.2.1
  have h4 := needSt_next g lSquare _ h3.2
  omega

theorem class_rd {w : World} {g : RG} {st : RS} (h : RdAt w g st) :
    Calls Try.prog 58 #[.pointer (some ⟨g.b, 0, none⟩)] w fun e w' => e = .returned (.tuple #[]) ∧ RdAt w' g (pClass g st) ∧ Kept g.own w w' := by
  unfold pClass
  go_enter Try.func58, Try.ntmps58
  go_wp2_with fail
  refine (takeL h _ lCaret (by rfl) (by decide)).mono ?_
  rintro e w1 ⟨rfl, h1, hk1⟩
  go_wp2_with fail
  refine (item_rd h1).mono ?_
  rintro e w2 ⟨rfl, h2, hk2⟩
  go_wp2_with fail
  have hk12 := hk1.trans hk2
  clear hk1 hk2 h1 h
  generalize hst : pItem g (takeOf g lCaret st) = st0 at h2
  have HST : Hid (pItem g (takeOf g lCaret st) = st0) := hst
  clear hst
  go_loopg [13] (g.rs.length - st0.next) (fun k _ wr => ∃ st1 m, RdAt wr g st1 ∧ Hid (pItems g m st1 = pItems g (g.rs.length + 1) st0) ∧ k = g.rs.length - st1.next ∧ k < m ∧ Kept g.own w wr)
  case atStart => exact ⟨st0, g.rs.length + 1, h2, rfl, rfl, by omega, hk12⟩
  case round =>
    obtain ⟨st1, m, hr, HP, rfl, hm, hk⟩ := hrel
    have hle := hr.next
    clear h2 hk12
    by_cases hend : seeOf g st1 = -1
    · have hb : (seeOf g st1 != -1) = false := by simp [hend]
      go_wp2_with fail
      refine (seeL hr).mono ?_
      rintro e w3 ⟨rfl, h3, hk3⟩
      clear hend
      go_wp2_with fail
      refine (needL h3 _ lSquare (by rfl) (by decide)).mono ?_
      rintro e w4 ⟨rfl, h4, hk4⟩
      go_wp2_with fail
      go_end0
      refine ⟨rfl, ?_, (hk.trans hk3).trans hk4⟩
      rw [HST.out, ← HP.out, pItems_end g m st1 (Or.inl (by simpa using hb))]
      exact h4
    · have hb : (seeOf g st1 != -1) = true := by simp [hend]
      have hlt := lt_of_see hend
      clear hend
      cases hsq : inSet lSquare (seeOf g st1)
      · go_wp2_with fail
        refine (seeL hr).mono ?_
        rintro e w3 ⟨rfl, h3, hk3⟩
        go_wp2_with fail
        refine (seesL h3 _ lSquare (by rfl) (by decide)).mono ?_
        rintro e w4 ⟨rfl, h4, hk4⟩
        rw [hsq]
        go_wp2_with fail
        refine (item_rd h4).mono ?_
        rintro e w5 ⟨rfl, h5, hk5⟩
        go_wp2_with fail
        have hn := pItem_next g st1 (by omega)
        have hnl := hn.2.2 hlt
        go_roundg (g.rs.length - (pItem g st1).next)
        case measure => omega
        case rel =>
          refine ⟨pItem g st1, m - 1, h5, ?_, rfl, by omega, ((hk.trans hk3).trans hk4).trans hk5⟩
          rw [← HP.out]
          obtain ⟨m', rfl⟩ : ∃ m', m = m' + 1 := ⟨m - 1, by omega⟩
          show pItems g m' _ = pItems g (m' + 1) st1
          rw [show pItems g (m' + 1) st1 = if seeOf g st1 = -1 ∨ inSet lSquare (seeOf g st1) = true then st1 else pItems g m' (pItem g st1) from rfl, if_neg (by simp [hsq]; simpa using hb)]
      · go_wp2_with fail
        refine (seeL hr).mono ?_
        rintro e w3 ⟨rfl, h3, hk3⟩
        go_wp2_with fail
        refine (seesL h3 _ lSquare (by rfl) (by decide)).mono ?_
        rintro e w4 ⟨rfl, h4, hk4⟩
        rw [hsq]
        go_wp2_with fail
        refine (needL h4 _ lSquare (by rfl) (by decide)).mono ?_
        rintro e w5 ⟨rfl, h5, hk5⟩
        go_wp2_with fail
        go_end0
        refine ⟨rfl, ?_, ((hk.trans hk3).trans hk4).trans hk5⟩
        rw [HST.out, ← HP.out, pItems_end g m st1 (Or.inr hsq)]
        exact h5
end Go.Proofs.Ytlimhofdonkljaa
