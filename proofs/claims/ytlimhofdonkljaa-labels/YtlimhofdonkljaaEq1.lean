/- The form, told alike: numbers, times, classes. -/
import Derived.Test.YtlimhofdonkljaaEq0
import Derived.Test.YtlimhofdonkljaaTr2
namespace Go.Proofs.Ytlimhofdonkljaa
set_option linter.unusedVariables false

theorem one_in (b : UInt8) (r : Int) : inSet [b] r = (r == (b.toNat : Int)) := by
  unfold inSet
  simp only [List.any_cons, List.any_nil, Bool.or_false]
  rw [Bool.eq_iff_iff]
  simp only [beq_iff_eq]
  exact ⟨fun h => h.symm, fun h => h.symm⟩
theorem in_brace (r : Int) : inSet lBrace r = (r == 125) := one_in 125 r
theorem in_comma (r : Int) : inSet lComma r = (r == 44) := one_in 44 r
theorem in_query (r : Int) : inSet lQuery r = (r == 63) := one_in 63 r
theorem in_star (r : Int) : inSet lStar r = (r == 42) := one_in 42 r
theorem in_plus (r : Int) : inSet lPlus r = (r == 43) := one_in 43 r
theorem in_obrace (r : Int) : inSet lOpenBrace r = (r == 123) := one_in 123 r
theorem in_back (r : Int) : inSet lBack r = (r == 92) := one_in 92 r
theorem in_dash (r : Int) : inSet lDash r = (r == 45) := one_in 45 r
theorem in_caret (r : Int) : inSet lCaret r = (r == 94) := one_in 94 r
theorem in_square (r : Int) : inSet lSquare r = (r == 93) := one_in 93 r
theorem in_osquare (r : Int) : inSet lOpenSquare r = (r == 91) := one_in 91 r
theorem in_oround (r : Int) : inSet lOpenRound r = (r == 40) := one_in 40 r
theorem in_round (r : Int) : inSet lRound r = (r == 41) := one_in 41 r
theorem in_bar (r : Int) : inSet lBar r = (r == 124) := one_in 124 r
theorem in_less (r : Int) : inSet lLess r = (r == 60) := one_in 60 r
theorem in_greater (r : Int) : inSet lGreater r = (r == 62) := one_in 62 r
theorem in_i (r : Int) : inSet lI r = (r == 105) := one_in 105 r
theorem in_colon (r : Int) : inSet lColon r = (r == 58) := one_in 58 r

variable {g : RG} {L : List (Nat × Int)} {n : Int}

theorem Out.number (hg : Gd g L n) {m : M} (hm : m = .low ∨ m = .high) (o : Int) (st : RS) (hn : st.next ≤ L.length) (hb : m = .high → seeOf g st ≠ 125) :
    ∃ (k : Int) (z : Bool), Out L n ⟨m, o, 0, false⟩ st = Out L n ⟨m, o, k, z⟩ (pNumber g st).1 ∧ 1 ≤ k ∧ ((pNumber g st).1.flt.form = none → inSet lDigits (seeOf g (pNumber g st).1) = true → (k = 2 ∨ (k = 1 ∧ z = true))) := by
  have hnd : (isDone m && o == 0) = false := by rcases hm with rfl | rfl <;> rfl
  have step : ∀ c r, c.m = m → scStep c r = scCounts c r := by
    intro c r hc
    obtain ⟨cm, co, cn, cz⟩ := c
    simp only at hc
    subst hc
    rcases hm with rfl | rfl <;> rfl
  cases hd : inSet lDigits (seeOf g st)
  · have e1 : pDigit g st = (refuseOf g st, 0) := by simp [pDigit, hd]
    have e2 : pNumber g st = (refuseOf g st, 0) := by unfold pNumber; rw [if_neg (by rw [e1]; simp), e1]
    rw [e2]
    refine ⟨1, true, ?_, by omega, fun h => absurd h (refuse_form g st)⟩
    refine Out.stop hg hn (fun _ _ => ?_) (fun _ _ => hnd)
    rw [step _ _ rfl]
    rw [digits_eq] at hd
    unfold scCounts
    simp only [hd]
    rcases hm with rfl | rfl
    · simp
    · have := hb rfl
      simp [this]
  · have e1 : pDigit g st = ({ st with next := st.next + 1 }, seeOf g st - 48) := by simp [pDigit, hd]
    have hl := seeOf_lt hd
    have hr := inSet_digits hd
    have hd' := hd
    rw [digits_eq] at hd'
    have s1 : Out L n ⟨m, o, 0, false⟩ st = Out L n ⟨m, o, 1, seeOf g st == 48⟩ { st with next := st.next + 1 } := by
      refine Out.step hg (fun _ => ⟨by omega, ?_⟩)
      rw [step _ _ rfl]
      unfold scCounts
      simp [hd']
    by_cases h2 : 0 < (pDigit g st).2 ∧ inSet lDigits (seeOf g (pDigit g st).1) = true
    · rw [show pNumber g st = ((pDigit g (pDigit g st).1).1, 10 * (pDigit g st).2 + (pDigit g (pDigit g st).1).2) from by unfold pNumber; rw [if_pos h2]]
      rw [e1] at h2 ⊢
      obtain ⟨h3, h4⟩ := h2
      simp only at h3 h4
      have e3 : pDigit g { st with next := st.next + 1 } = ({ st with next := st.next + 2 }, seeOf g { st with next := st.next + 1 } - 48) := by simp [pDigit, h4]
      rw [e3]
      have hr2 := inSet_digits h4
      rw [digits_eq] at h4
      refine ⟨2, false, ?_, by omega, fun _ _ => Or.inl rfl⟩
      rw [s1]
      have : (seeOf g st == 48) = false := by simp; omega
      rw [this]
      refine Out.step hg (st := { st with next := st.next + 1 }) (fun _ => ⟨by omega, ?_⟩)
      rw [step _ _ rfl]
      unfold scCounts
      simp [h4]
    · rw [show pNumber g st = pDigit g st from by unfold pNumber; rw [if_neg h2]]
      rw [e1] at h2 ⊢
      refine ⟨1, seeOf g st == 48, s1, by omega, fun _ h => Or.inr ⟨rfl, ?_⟩⟩
      simp only at h h2
      have : ¬ 0 < seeOf g st - 48 := fun h' => h2 ⟨h', h⟩
      simp; omega

theorem Out.braceEnd (hg : Gd g L n) {m : M} (hm : m = .low ∨ m = .high) (o k : Int) (z : Bool) (st : RS) (hn : st.next ≤ L.length) (hk : m = .low → 1 ≤ k) (hk0 : 0 ≤ k) (hc : m = .low → seeOf g st ≠ 44)
    (hd : st.flt.form = none → inSet lDigits (seeOf g st) = true → (k = 2 ∨ (k = 1 ∧ z = true))) : Out L n ⟨m, o, k, z⟩ st = Out L n ⟨.lazy, o, k, z⟩ (needSt g lBrace st) := by
  have step : ∀ c r, c.m = m → scStep c r = scCounts c r := by
    intro c r hc
    obtain ⟨cm, co, cn, cz⟩ := c
    simp only at hc
    subst hc
    rcases hm with rfl | rfl <;> rfl
  refine Out.need hg hn (fun _ h => ?_) (fun hf _ h => ?_) (fun _ _ => by rcases hm with rfl | rfl <;> rfl)
  · rw [in_brace] at h
    rw [beq_iff_eq.1 h, step _ _ rfl]
    unfold scCounts
    rw [digit125]
    rcases hm with rfl | rfl
    · have := hk rfl
      simp; omega
    · simp
  · rw [in_brace] at h
    rw [step _ _ rfl]
    unfold scCounts
    cases hdg : digitOf (seeOf g st)
    · rcases hm with rfl | rfl
      · have := hc rfl
        simp [h, this]
      · simp [h]
    · rcases hd hf (by rw [digits_eq]; exact hdg) with rfl | ⟨rfl, rfl⟩ <;> simp

theorem Out.bounds (hg : Gd g L n) (o : Int) (st : RS) (hn : st.next ≤ L.length) : ∃ (k : Int) (z : Bool), Out L n ⟨.low, o, 0, false⟩ st = Out L n ⟨.lazy, o, k, z⟩ (pBounds g st).1 := by
  obtain ⟨k, z, h1, h2, h3⟩ := Out.number hg (Or.inl rfl) o st hn (fun h => by cases h)
  have hle := hg.len
  have hnx := pNumber_next g st (by omega)
  unfold pBounds
  cases hc : inSet lComma (seeOf g (pNumber g st).1)
  · rw [if_neg (by simp)]
    rw [in_comma] at hc
    refine ⟨k, z, ?_⟩
    rw [h1]
    exact Out.braceEnd hg (Or.inl rfl) o k z _ (by omega) (fun _ => h2) (by omega) (fun _ => by intro e; rw [e] at hc; exact absurd hc (by decide)) h3
  · rw [if_pos rfl]
    have hl := seeOf_lt hc
    rw [in_comma] at hc
    have hc' := beq_iff_eq.1 hc
    have s1 : Out L n ⟨.low, o, k, z⟩ (pNumber g st).1 = Out L n ⟨.high, o, 0, false⟩ { (pNumber g st).1 with next := (pNumber g st).1.next + 1 } := by
      refine Out.step hg (fun _ => ⟨by omega, ?_⟩)
      rw [hc']
      rw [show scStep ⟨.low, o, k, z⟩ 44 = scCounts ⟨.low, o, k, z⟩ 44 from rfl]
      unfold scCounts
      rw [digit44]
      simp; omega
    simp only
    unfold pHigh
    cases hb : inSet lBrace (seeOf g { (pNumber g st).1 with next := (pNumber g st).1.next + 1 })
    · rw [if_neg (by simp)]
      rw [in_brace] at hb
      obtain ⟨k', z', q1, q2, q3⟩ := Out.number hg (Or.inr rfl) o { (pNumber g st).1 with next := (pNumber g st).1.next + 1 } (by simp; omega) (fun _ e => by rw [e] at hb; exact absurd hb (by decide))
      have hnx2 := pNumber_next g { (pNumber g st).1 with next := (pNumber g st).1.next + 1 } (by simp; omega)
      refine ⟨k', z', ?_⟩
      rw [h1, s1, q1]
      exact Out.braceEnd hg (Or.inr rfl) o k' z' _ (by omega) (fun h => by cases h) (by omega) (fun h => by cases h) q3
    · rw [if_pos rfl]
      refine ⟨0, false, ?_⟩
      rw [h1, s1]
      have hb' := hb
      rw [in_brace] at hb'
      exact Out.braceEnd hg (Or.inr rfl) o 0 false _ (by simp; omega) (fun h => by cases h) (by omega) (fun h => by cases h) (fun _ h => by rw [beq_iff_eq.1 hb'] at h; exact absurd h (by decide))

/-- what comes next is taken as an atom -/
def Ready (g : RG) (c : Sc) (st : RS) : Prop := st.flt.form = none → seeOf g st ≠ -1 → scStep c (seeOf g st) = scAtom c (seeOf g st)

theorem Out.lazy (hg : Gd g L n) (o k : Int) (z : Bool) (st : RS) (hn : st.next ≤ L.length) : ∃ c', c'.o = o ∧ isDone c'.m = true ∧ Ready g c' (takeOf g lQuery st) ∧ Out L n ⟨.lazy, o, k, z⟩ st = Out L n c' (takeOf g lQuery st) := by
  unfold takeOf
  cases hq : inSet lQuery (seeOf g st)
  · rw [if_neg (by simp)]
    rw [in_query] at hq
    refine ⟨⟨.lazy, o, k, z⟩, rfl, rfl, fun _ _ => ?_, rfl⟩
    show (if (seeOf g st == 63) = true then _ else _) = _
    rw [hq]; rfl
  · rw [if_pos rfl]
    rw [in_query] at hq
    refine ⟨⟨.more, o, k, z⟩, rfl, rfl, fun _ _ => rfl, ?_⟩
    refine Out.step hg (fun _ => ⟨by rw [beq_iff_eq.1 hq]; omega, ?_⟩)
    rw [beq_iff_eq.1 hq]; rfl

theorem Out.repeated (hg : Gd g L n) (o k : Int) (z : Bool) (A : PT) (st : RS) (hn : st.next ≤ L.length) : ∃ c', c'.o = o ∧ isDone c'.m = true ∧ Ready g c' (pRepeated g A st).1 ∧ Out L n ⟨.times, o, k, z⟩ st = Out L n c' (pRepeated g A st).1 := by
  have hle := hg.len
  have key : ∀ r, seeOf g st = r → r ≠ -1 → scStep ⟨.times, o, k, z⟩ r = some ⟨.lazy, o, k, z⟩ → ∃ c', c'.o = o ∧ isDone c'.m = true ∧ Ready g c' (takeOf g lQuery { st with next := st.next + 1 }) ∧ Out L n ⟨.times, o, k, z⟩ st = Out L n c' (takeOf g lQuery { st with next := st.next + 1 }) := by
    intro r hr h1 h2
    have hl := hg.seen (st := st) (by rw [hr]; exact h1)
    obtain ⟨c', q1, q2, q3, q4⟩ := Out.lazy hg o k z { st with next := st.next + 1 } (by simp; omega)
    refine ⟨c', q1, q2, q3, ?_⟩
    rw [← q4]
    exact Out.step hg (fun _ => ⟨by rw [hr]; exact h1, by rw [hr]; exact h2⟩)
  unfold pRepeated
  rw [in_star, in_plus, in_query, in_obrace]
  cases h1 : (seeOf g st == 42)
  · cases h2 : (seeOf g st == 43)
    · cases h3 : (seeOf g st == 63)
      · cases h4 : (seeOf g st == 123)
        · simp only [Bool.false_eq_true, if_false]
          refine ⟨⟨.times, o, k, z⟩, rfl, rfl, fun _ _ => ?_, rfl⟩
          show (if (seeOf g st == 42) = true then _ else if (seeOf g st == 43) = true then _ else if (seeOf g st == 63) = true then _ else if (seeOf g st == 123) = true then _ else _) = _
          rw [h1, h2, h3, h4]; rfl
        · simp only [Bool.false_eq_true, if_false, if_true]
          have hr := beq_iff_eq.1 h4
          have hl := hg.seen (st := st) (by rw [hr]; omega)
          obtain ⟨k', z', q1⟩ := Out.bounds hg o { st with next := st.next + 1 } (by simp; omega)
          have hnx := pBounds_next g { st with next := st.next + 1 } (by simp; omega)
          have s1 : Out L n ⟨.times, o, k, z⟩ st = Out L n ⟨.low, o, 0, false⟩ { st with next := st.next + 1 } := Out.step hg (fun _ => ⟨by rw [hr]; omega, by rw [hr]; rfl⟩)
          rw [s1, q1]
          split
          · obtain ⟨c', p1, p2, p3, p4⟩ := Out.lazy hg o k' z' ((pBounds g { st with next := st.next + 1 }).1.note 4 (placeOf g st)) (by rw [note_next]; omega)
            refine ⟨c', p1, p2, p3, ?_⟩
            rw [← p4, Out.note (by omega)]
          · obtain ⟨c', p1, p2, p3, p4⟩ := Out.lazy hg o k' z' (pBounds g { st with next := st.next + 1 }).1 (by omega)
            exact ⟨c', p1, p2, p3, p4⟩
      · simp only [Bool.false_eq_true, if_false, if_true]
        exact key 63 (beq_iff_eq.1 h3) (by omega) rfl
    · simp only [Bool.false_eq_true, if_false, if_true]
      exact key 43 (beq_iff_eq.1 h2) (by omega) rfl
  · simp only [if_true]
    exact key 42 (beq_iff_eq.1 h1) (by omega) rfl
end Go.Proofs.Ytlimhofdonkljaa
