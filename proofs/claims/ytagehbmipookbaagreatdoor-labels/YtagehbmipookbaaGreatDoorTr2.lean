/- The reference's tree: number, plainRune. -/
import Derived.Test.YtagehbmipookbaaGreatDoorTr
namespace Go.Proofs.YtagehbmipookbaaGreatDoor
open Go.RowKit
set_option linter.unusedVariables false
set_option maxRecDepth 100000

/-- the state that a tree is in behind a step of the program's reader -/
abbrev RS.to (st : RS) (m : Nat) : RS := { st with next := m }

theorem digits_eq (r : Int) : inSet lDigits r = digitOf r := by
  rw [Bool.eq_iff_iff]
  simp [inSet, lDigits, digitOf]
  omega

theorem Tr_atL {w : World} {t : TG} {g : RG} {st : RS} {fold : Int} {vn : Value} {nl : List (List UInt8)} (h : TrAt w t g st fold vn nl) :
    Calls Tryz.prog 23 #[.pointer (some ⟨t.b, 0, none⟩)] w fun e w' => e = .returned (.int .i64 (seeOf g st)) ∧ TrAt w' t g st fold vn nl ∧ Kept (fun i => i = t.b) w w' :=
  (at_tr h).mono fun e w' ⟨he, hk⟩ => ⟨he, h.nil hk, hk.mono (fun _ hx => hx.elim)⟩
theorem Tr_behindL {w : World} {t : TG} {g : RG} {st : RS} {fold : Int} {vn : Value} {nl : List (List UInt8)} (h : TrAt w t g st fold vn nl) :
    Calls Tryz.prog 49 #[.pointer (some ⟨t.b, 0, none⟩)] w fun e w' => e = .returned (.int .i64 (seeOf g { st with next := st.next + 1 })) ∧ TrAt w' t g st fold vn nl ∧ Kept (fun i => i = t.b) w w' :=
  (behind_tr h).mono fun e w' ⟨he, hk⟩ => ⟨he, h.nil hk, hk.mono (fun _ hx => hx.elim)⟩

theorem TrAt.step {w : World} {t : TG} {g : RG} {st : RS} {fold : Int} {vn : Value} {nl : List (List UInt8)} (h : TrAt w t g st fold vn nl) (hlt : st.next < t.l.length) : TrAt (w.setCell ⟨t.b, 1, none⟩ (.int .i64 ((st.next : Int) + 1))) t g { st with next := st.next + 1 } fold vn nl := by
  have := h.setNext (st.next + 1) (by omega) (by omega)
  simpa using this

theorem plainA {w : World} {t : TG} {g : RG} {st : RS} {fold : Int} {vn : Value} {nl : List (List UInt8)} (h : TrAt w t g st fold vn nl) (hlt : st.next < t.l.length) (hne : seeOf g st ≠ 92) :
    Calls Tryz.prog 51 #[.pointer (some ⟨t.b, 0, none⟩)] w fun e w' => e = .returned (.int .i64 (seeOf g st)) ∧ TrAt w' t g { st with next := st.next + 1 } fold vn nl ∧ Kept (fun i => i = t.b) w w' := by
  have hb : (seeOf g st != 92) = true := by simp [hne]
  have hl := h.len
  go_enter Tryz.func51, Tryz.ntmps51
  go_wp2_with fail
  refine (Tr_atL h).mono ?_
  rintro e w1 ⟨rfl, h1, hk1⟩
  have c1 : w1.cell? ⟨t.b, 1, none⟩ = some (.int .i64 st.next) := h1.blk.cell 1
  have f1 : w1.frozen? ⟨t.b, 1, none⟩ = false := h1.blk.frozen 1
  go_wp2_with fail
  go_ret
  exact ⟨rfl, h1.step hlt, hk1.trans (own1 1 _)⟩

theorem plainB {w : World} {t : TG} {g : RG} {st : RS} {fold : Int} {vn : Value} {nl : List (List UInt8)} (h : TrAt w t g st fold vn nl) (hlt : st.next + 1 < t.l.length) (he92 : seeOf g st = 92) :
    Calls Tryz.prog 51 #[.pointer (some ⟨t.b, 0, none⟩)] w fun e w' => e = .returned (.int .i64 (escRune (seeOf g { st with next := st.next + 1 }))) ∧ TrAt w' t g { st with next := st.next + 2 } fold vn nl ∧ Kept (fun i => i = t.b) w w' := by
  have hb : (seeOf g st != 92) = false := by simp [he92]
  have hl := h.len
  clear he92
  go_enter Tryz.func51, Tryz.ntmps51
  go_wp2_with fail
  refine (Tr_atL h).mono ?_
  rintro e w1 ⟨rfl, h1, hk1⟩
  have c1 : w1.cell? ⟨t.b, 1, none⟩ = some (.int .i64 st.next) := h1.blk.cell 1
  have f1 : w1.frozen? ⟨t.b, 1, none⟩ = false := h1.blk.frozen 1
  go_wp2_with fail
  have h2 := h1.step (by omega)
  refine (Tr_atL h2).mono ?_
  rintro e w3 ⟨rfl, h3, hk3⟩
  have c3 : w3.cell? ⟨t.b, 1, none⟩ = some (.int .i64 ((st.next : Int) + 1)) := by have := h3.blk.cell 1; simpa using this
  have f3 : w3.frozen? ⟨t.b, 1, none⟩ = false := h3.blk.frozen 1
  have h4 := h3.setNext (st.next + 2) (by omega) (by simp)
  have h4' : TrAt (w3.setCell ⟨t.b, 1, none⟩ (.int .i64 ((st.next : Int) + 1 + 1))) t g { st with next := st.next + 2 } fold vn nl := by
    have e : ((st.next : Int) + 1 + 1) = ((st.next + 2 : Nat) : Int) := by omega
    rw [e]; exact h4
  clear c1 f1
  generalize hq : seeOf g { st with next := st.next + 1 } = q at *
  have HQ : Hid (seeOf g { st with next := st.next + 1 } = q) := hq
  clear hq
  go_wp2_with fail
  all_goals go_ret
  all_goals (have h4'' : TrAt (w3.setCell ⟨t.b, 1, none⟩ (.int .i64 ((st.next : Int) + 2))) t g { st with next := st.next + 2 } fold vn nl := (by rw [show ((st.next : Int) + 2) = ((st.next : Int) + 1 + 1) from by omega]; exact h4'))
  all_goals refine ⟨?_, h4'', ((hk1.trans (own1 1 _)).trans hk3).trans (own1 1 _)⟩
  all_goals (rw [HQ.out]; simp only [beq_iff_eq, beq_eq_false_iff_ne, ne_eq] at *; simp [escRune, *])

/-- a number: nothing is refused, and no digit stands behind it -/
theorem number_tr {w : World} {t : TG} {g : RG} {st : RS} {fold : Int} {vn : Value} {nl : List (List UInt8)} (h : TrAt w t g st fold vn nl) (hf : (pNumber g st).1.flt.form = none) (hnd : inSet lDigits (seeOf g (pNumber g st).1) = false) :
    Calls Tryz.prog 39 #[.pointer (some ⟨t.b, 0, none⟩)] w fun e w' => e = .returned (.int .i64 (pNumber g st).2) ∧ TrAt w' t g (pNumber g st).1 fold vn nl ∧ Kept (fun i => i = t.b) w w' := by
  have hl := h.len
  have hlr := h.lenr
  -- the first digit
  have hd1 : inSet lDigits (seeOf g st) = true := by
    cases hc : inSet lDigits (seeOf g st)
    · exfalso
      have e1 : pDigit g st = (refuseOf g st, 0) := by simp [pDigit, hc]
      have e2 : pNumber g st = (refuseOf g st, 0) := by
        unfold pNumber
        rw [if_neg (by rw [e1]; simp), e1]
      rw [e2] at hf
      exact refuse_form g st hf
    · rfl
  have e1 : pDigit g st = ({ st with next := st.next + 1 }, seeOf g st - 48) := by simp [pDigit, hd1]
  have hlt := seeOf_lt hd1
  have hr1 := inSet_digits hd1
  by_cases htwo : 0 < seeOf g st - 48 ∧ inSet lDigits (seeOf g { st with next := st.next + 1 }) = true
  · have e2 : pDigit g { st with next := st.next + 1 } = ({ st with next := st.next + 2 }, seeOf g { st with next := st.next + 1 } - 48) := by simp [pDigit, htwo.2]
    have e3 : pNumber g st = ({ st with next := st.next + 2 }, 10 * (seeOf g st - 48) + (seeOf g { st with next := st.next + 1 } - 48)) := by
      unfold pNumber
      rw [e1, if_pos htwo, e2]
    rw [e3] at hnd ⊢
    have hlt2 := seeOf_lt htwo.2
    simp only at hlt2
    have hr2 := inSet_digits htwo.2
    have t1 : digitOf (seeOf g st) = true := by rw [← digits_eq]; exact hd1
    have t2 : digitOf (seeOf g { st with next := st.next + 1 }) = true := by rw [← digits_eq]; exact htwo.2
    have t3 : digitOf (seeOf g { st with next := st.next + 2 }) = false := by rw [← digits_eq]; exact hnd
    clear e1 e2 e3 hnd hd1 htwo hf
    go_enter Tryz.func39, Tryz.ntmps39
    go_wp2_with fail
    refine wp_loop_rounds 3 ?_
    rw [rounds_succ]
    go_wp2_with fail
    refine (Tr_atL h).mono ?_
    rintro e w1 ⟨rfl, h1, hk1⟩
    go_wp2_with fail
    refine (digit_any _ _).mono ?_
    rintro e w1 ⟨rfl, rfl⟩
    rw [t1]
    go_wp2_with fail
    refine (Tr_atL h1).mono ?_
    rintro e w2 ⟨rfl, h2, hk2⟩
    have c1 : w2.cell? ⟨t.b, 1, none⟩ = some (.int .i64 st.next) := h2.blk.cell 1
    have f1 : w2.frozen? ⟨t.b, 1, none⟩ = false := h2.blk.frozen 1
    go_wp2_with fail
    rw [rounds_succ]
    have h3 := h2.step (by omega)
    clear c1 f1
    go_wp2_with fail
    refine (Tr_atL h3).mono ?_
    rintro e w4 ⟨rfl, h4, hk4⟩
    go_wp2_with fail
    refine (digit_any _ _).mono ?_
    rintro e w4 ⟨rfl, rfl⟩
    rw [t2]
    go_wp2_with fail
    refine (Tr_atL h4).mono ?_
    rintro e w5 ⟨rfl, h5, hk5⟩
    have c1 : w5.cell? ⟨t.b, 1, none⟩ = some (.int .i64 ((st.next : Int) + 1)) := by have := h5.blk.cell 1; simpa using this
    have f1 : w5.frozen? ⟨t.b, 1, none⟩ = false := h5.blk.frozen 1
    go_wp2_with fail
    rw [rounds_succ]
    have h6 : TrAt (w5.setCell ⟨t.b, 1, none⟩ (.int .i64 ((st.next : Int) + 2))) t g { st with next := st.next + 2 } fold vn nl := by
      have := h5.setNext (st.next + 2) (by omega) (by simp)
      simpa using this
    clear c1 f1
    go_wp2_with fail
    refine (Tr_atL h6).mono ?_
    rintro e w7 ⟨rfl, h7, hk7⟩
    go_wp2_with fail
    refine (digit_any _ _).mono ?_
    rintro e w7 ⟨rfl, rfl⟩
    rw [t3]
    go_wp2_with fail
    go_ret
    refine ⟨?_, h7, (((((hk1.trans hk2).trans (own1 1 _)).trans hk4).trans hk5).trans (own1 1 _)).trans hk7⟩
    exact congrArg (fun x => Ending.returned (Value.int .i64 x)) (by omega)
  · have e3 : pNumber g st = ({ st with next := st.next + 1 }, seeOf g st - 48) := by
      unfold pNumber
      rw [e1, if_neg htwo]
    rw [e3] at hnd ⊢
    have t1 : digitOf (seeOf g st) = true := by rw [← digits_eq]; exact hd1
    have t2 : digitOf (seeOf g { st with next := st.next + 1 }) = false := by rw [← digits_eq]; exact hnd
    clear e1 e3 hnd hd1 htwo hf
    go_enter Tryz.func39, Tryz.ntmps39
    go_wp2_with fail
    refine wp_loop_rounds 2 ?_
    rw [rounds_succ]
    go_wp2_with fail
    refine (Tr_atL h).mono ?_
    rintro e w1 ⟨rfl, h1, hk1⟩
    go_wp2_with fail
    refine (digit_any _ _).mono ?_
    rintro e w1 ⟨rfl, rfl⟩
    rw [t1]
    go_wp2_with fail
    refine (Tr_atL h1).mono ?_
    rintro e w2 ⟨rfl, h2, hk2⟩
    have c1 : w2.cell? ⟨t.b, 1, none⟩ = some (.int .i64 st.next) := h2.blk.cell 1
    have f1 : w2.frozen? ⟨t.b, 1, none⟩ = false := h2.blk.frozen 1
    go_wp2_with fail
    rw [rounds_succ]
    have h3 := h2.step (by omega)
    clear c1 f1
    go_wp2_with fail
    refine (Tr_atL h3).mono ?_
    rintro e w4 ⟨rfl, h4, hk4⟩
    go_wp2_with fail
    refine (digit_any _ _).mono ?_
    rintro e w4 ⟨rfl, rfl⟩
    rw [t2]
    go_wp2_with fail
    go_ret
    refine ⟨?_, h4, ((hk1.trans hk2).trans (own1 1 _)).trans hk4⟩
    exact congrArg (fun x => Ending.returned (Value.int .i64 x)) (by omega)
end Go.Proofs.YtagehbmipookbaaGreatDoor
