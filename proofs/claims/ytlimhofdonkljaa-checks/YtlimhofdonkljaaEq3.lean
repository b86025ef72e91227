/- The form, told alike: names, brackets, atoms, the whole pattern. -/
import Derived.Test.YtlimhofdonkljaaEq2
namespace Go.Proofs.Ytlimhofdonkljaa
set_option linter.unusedVariables false

variable {g : RG} {L : List (Nat × Int)} {n : Int}

theorem small_letters (r : Int) : inSet lLetters r = smallOf r := by
  cases h : smallOf r
  · cases h2 : inSet lLetters r
    · rfl
    · have := letters_range h2
      unfold smallOf at h
      exact absurd (of_decide_eq_false h) (fun h => h this)
  · have hr : 97 ≤ r ∧ r ≤ 122 := by unfold smallOf at h; exact of_decide_eq_true h
    have : r = 97 ∨ r = 98 ∨ r = 99 ∨ r = 100 ∨ r = 101 ∨ r = 102 ∨ r = 103 ∨ r = 104 ∨ r = 105 ∨ r = 106 ∨ r = 107 ∨ r = 108 ∨ r = 109 ∨ r = 110 ∨ r = 111 ∨ r = 112 ∨ r = 113 ∨ r = 114 ∨ r = 115 ∨ r = 116 ∨ r = 117 ∨ r = 118 ∨ r = 119 ∨ r = 120 ∨ r = 121 ∨ r = 122 := by omega
    rcases this with h | h | h | h | h | h | h | h | h | h | h | h | h | h | h | h | h | h | h | h | h | h | h | h | h | h <;> subst h <;> rfl

theorem need_told {l : List UInt8} {st : RS} {p : Int} (h : st.flt.form = some p) : (needSt g l st).flt.form = some p := by
  unfold needSt
  split
  · exact h
  · exact refuse_told h
theorem pNamed_told (first : Nat) (st : RS) : (pNamed g first st).flt.form = st.flt.form := by
  unfold pNamed
  split
  · exact note_told (by omega)
  · rfl
theorem pLetters_same' (first : Nat) : ∀ (m : Nat) (st : RS), (pLetters g first m st).flt = st.flt
  | 0, _ => rfl
  | m + 1, st => by
    unfold pLetters
    split
    · exact pLetters_same' first m { st with next := st.next + 1 }
    · rfl

theorem name_step (o k : Int) (z : Bool) (r : Int) : scStep ⟨.name, o, k, z⟩ r = if smallOf r && decide (k < 8) then some ⟨.name, o, k + 1, z⟩ else if r == 62 && decide (0 < k) then some ⟨.begin, o, k, z⟩ else none := rfl

theorem Out.letters (hg : Gd g L n) (o : Int) (z : Bool) (first : Nat) : ∀ (m : Nat) (s : RS), first + 1 ≤ s.next → s.next ≤ first + 8 → s.next ≤ L.length → L.length - s.next < m →
    Out L n ⟨.name, o, (s.next : Int) - first, z⟩ s = Out L n ⟨.name, o, ((pLetters g first m s).next : Int) - first, z⟩ (pLetters g first m s) ∧ ¬ ((pLetters g first m s).next < first + 8 ∧ inSet lLetters (seeOf g (pLetters g first m s)) = true) ∧ first + 1 ≤ (pLetters g first m s).next ∧ (pLetters g first m s).next ≤ L.length
  | 0, s, _, _, _, h => by omega
  | m + 1, s, h1, h2, h3, h4 => by
    unfold pLetters
    by_cases hc : s.next < first + 8 ∧ inSet lLetters (seeOf g s) = true
    · rw [if_pos hc]
      have hlt := seeOf_lt hc.2
      have hle := hg.len
      have ih := Out.letters hg o z first m { s with next := s.next + 1 } (by simp; omega) (by simp; omega) (by simp; omega) (by simp; omega)
      refine ⟨?_, ih.2⟩
      rw [← ih.1]
      have hr := letters_range hc.2
      refine Out.step hg (fun _ => ⟨by omega, ?_⟩)
      rw [name_step, ← small_letters, hc.2, decide_eq_true (by omega)]
      simp only [Bool.and_self, if_true]
      congr 2
      simp; omega
    · rw [if_neg hc]
      exact ⟨rfl, hc, h1, h3⟩

theorem Out.name (hg : Gd g L n) (o : Int) (z : Bool) (st : RS) (hn : st.next ≤ L.length) : ∃ k' z', Out L n ⟨.name, o, 0, z⟩ st = Out L n ⟨.begin, o, k', z'⟩ (pName g st) := by
  have hle := hg.len
  have s1 : Out L n ⟨.name, o, 0, z⟩ st = Out L n ⟨.name, o, 1, z⟩ (needSt g lLetters st) := by
    refine Out.need hg hn (fun _ h => ?_) (fun _ _ h => ?_) (fun _ _ => rfl)
    · rw [name_step, ← small_letters, h]; rfl
    · rw [name_step, ← small_letters, h]; simp
  rw [s1]
  unfold pName
  cases hf : (needSt g lLetters st).flt.form with
  | some p =>
    refine ⟨0, false, ?_⟩
    rw [Out.told hf, Out.told (need_told (by rw [pNamed_told, pLetters_same']; exact hf))]
  | none =>
    obtain ⟨a1, a2, a3⟩ := needSt_form hf
    have hlt := seeOf_lt a1
    rw [a3]
    obtain ⟨q1, q2, q3, q4⟩ := Out.letters hg o z st.next (g.rs.length + 9) { st with next := st.next + 1 } (by simp) (by simp) (by simp; omega) (by simp; omega)
    have e1 : (((({ st with next := st.next + 1 } : RS).next : Nat) : Int) - (st.next : Int)) = 1 := by simp; omega
    rw [e1] at q1
    rw [q1]
    generalize pLetters g st.next (g.rs.length + 9) { st with next := st.next + 1 } = s2 at *
    refine ⟨(s2.next : Int) - st.next, z, ?_⟩
    have hsee : seeOf g (pNamed g st.next s2) = seeOf g s2 := by unfold seeOf; rw [pNamed_next]
    rw [show Out L n ⟨.name, o, (s2.next : Int) - st.next, z⟩ s2 = Out L n ⟨.name, o, (s2.next : Int) - st.next, z⟩ (pNamed g st.next s2) from (Out.same (pNamed_told _ _) (pNamed_next g _ _)).symm]
    refine Out.need hg (by rw [pNamed_next]; exact q4) (fun _ h => ?_) (fun _ _ h => ?_) (fun _ _ => rfl)
    · rw [in_greater] at h
      rw [beq_iff_eq.1 h, name_step, small62, decide_eq_true (show 0 < (s2.next : Int) - st.next by omega)]
      rfl
    · rw [hsee] at h ⊢
      rw [in_greater] at h
      rw [name_step, h, ← small_letters]
      cases hl : inSet lLetters (seeOf g s2)
      · simp
      · rw [decide_eq_false (by intro h'; exact q2 ⟨by omega, hl⟩)]
        simp

theorem Out.head (hg : Gd g L n) (o k : Int) (z : Bool) (st : RS) (hn : st.next ≤ L.length) : ∃ c', c'.o = o ∧ Ready g c' (pHead g st) ∧ Out L n ⟨.open_, o, k, z⟩ st = Out L n c' (pHead g st) := by
  have hle := hg.len
  unfold pHead
  cases hq : inSet lQuery (seeOf g st)
  · rw [if_pos rfl]
    rw [in_query] at hq
    refine ⟨⟨.open_, o, k, z⟩, rfl, fun _ _ => ?_, (Out.same rfl rfl).symm⟩
    show (if (seeOf g { st with groups := st.groups + 1 } == 63) = true then _ else _) = _
    rw [show seeOf g { st with groups := st.groups + 1 } = seeOf g st from rfl, hq]; rfl
  · rw [if_neg (by simp)]
    have hlt := seeOf_lt hq
    rw [in_query] at hq
    have hq' := beq_iff_eq.1 hq
    have s1 : Out L n ⟨.open_, o, k, z⟩ st = Out L n ⟨.query, o, k, z⟩ { st with next := st.next + 1 } := Out.step hg (fun _ => ⟨by omega, by rw [hq']; rfl⟩)
    rw [s1]
    cases hl : inSet lLess (seeOf g { st with next := st.next + 1 })
    · rw [if_neg (by simp)]
      rw [in_less] at hl
      unfold takeOf
      cases hi : inSet lI (seeOf g { st with next := st.next + 1 })
      · rw [if_neg (by simp)]
        rw [in_i] at hi
        refine ⟨⟨.begin, o, k, z⟩, rfl, fun _ _ => rfl, ?_⟩
        refine Out.need hg (by simp; omega) (fun _ h => ?_) (fun _ _ h => ?_) (fun _ _ => rfl)
        · rw [in_colon] at h; rw [beq_iff_eq.1 h]; rfl
        · rw [in_colon] at h
          show (if (seeOf g { st with next := st.next + 1 } == 58) = true then _ else if (seeOf g { st with next := st.next + 1 } == 105) = true then _ else if (seeOf g { st with next := st.next + 1 } == 60) = true then _ else _) = _
          rw [h, hi, hl]; rfl
      · rw [if_pos rfl]
        have hlt2 := seeOf_lt hi
        simp only at hlt2
        rw [in_i] at hi
        have hi' := beq_iff_eq.1 hi
        have s2 : Out L n ⟨.query, o, k, z⟩ { st with next := st.next + 1 } = Out L n ⟨.colon, o, k, z⟩ { st with next := st.next + 1 + 1 } := Out.step hg (st := { st with next := st.next + 1 }) (fun _ => ⟨by omega, by rw [hi']; rfl⟩)
        rw [s2]
        refine ⟨⟨.begin, o, k, z⟩, rfl, fun _ _ => rfl, ?_⟩
        refine Out.need hg (by simp; omega) (fun _ h => ?_) (fun _ _ h => ?_) (fun _ _ => rfl)
        · rw [in_colon] at h; rw [beq_iff_eq.1 h]; rfl
        · rw [in_colon] at h
          show (if (seeOf g { st with next := st.next + 1 + 1 } == 58) = true then _ else _) = _
          rw [h]; rfl
    · rw [if_pos rfl]
      have hlt2 := seeOf_lt hl
      simp only at hlt2
      rw [in_less] at hl
      have hl' := beq_iff_eq.1 hl
      have s2 : Out L n ⟨.query, o, k, z⟩ { st with next := st.next + 1 } = Out L n ⟨.name, o, 0, z⟩ { st with next := st.next + 2 } := Out.step hg (st := { st with next := st.next + 1 }) (fun _ => ⟨by omega, by rw [hl']; rfl⟩)
      obtain ⟨k', z', q⟩ := Out.name hg o z { st with next := st.next + 2, groups := st.groups + 1 } (by simp; omega)
      refine ⟨⟨.begin, o, k', z'⟩, rfl, fun _ _ => rfl, ?_⟩
      rw [s2, ← q]
      exact (Out.same rfl rfl).symm

/-- what lies between bars, or in a round bracket -/
def AltOut (g : RG) (L : List (Nat × Int)) (n : Int) (alt : RS → RS × PT) (d : Nat) : Prop := ∀ (c : Sc) (st : RS), st.next ≤ L.length → L.length - st.next < d → Ready g c st → 0 ≤ c.o → (c.o = 0 → isDone c.m = true) →
  ∃ c', c'.o = c.o ∧ Ready g c' (alt st).1 ∧ (c'.o = 0 → isDone c'.m = true) ∧ Out L n c st = Out L n c' (alt st).1 ∧ (seeOf g (alt st).1 = -1 ∨ seeOf g (alt st).1 = 41)

theorem Out.bracket (hg : Gd g L n) {alt : RS → RS × PT} {d : Nat} (ha : AltOut g L n alt d) (hfw : AltFwd g alt) (o k : Int) (z : Bool) (ho : 0 ≤ o) (st : RS) (hn : st.next ≤ L.length) (hd : L.length - st.next < d) : ∃ k' z', Out L n ⟨.open_, o + 1, k, z⟩ st = Out L n ⟨.times, o, k', z'⟩ (pBracket g alt st).1 := by
  have hle := hg.len
  obtain ⟨c1, q1, q2, q3⟩ := Out.head hg (o + 1) k z st hn
  have hnx := pHead_next g st (by omega)
  obtain ⟨c2, p1, p2, p3, p4, p5⟩ := ha c1 (pHead g st) (by omega) (by omega) q2 (by omega) (by omega)
  have hnx2 := hfw (pHead g st) (by omega)
  refine ⟨c2.n, c2.z, ?_⟩
  rw [q3, p4]
  unfold pBracket
  refine Out.need hg (by omega) (fun hf h => ?_) (fun _ h1 h2 => ?_) (fun _ _ => ?_)
  · rw [in_round] at h
    have h' := beq_iff_eq.1 h
    have := p2 hf (by omega)
    rw [h'] at this ⊢
    rw [this]
    obtain ⟨m2, o2, k2, z2⟩ := c2
    have ho2 : o2 = o + 1 := by have := p1.trans q1; exact this
    subst ho2
    show (if 0 ≤ o + 1 - 1 then _ else _) = _
    rw [if_pos (by omega), show o + 1 - 1 = o from by omega]
  · rw [in_round] at h2
    rcases p5 with h' | h'
    · exact absurd h' h1
    · rw [h'] at h2; exact absurd h2 (by decide)
  · have : c2.o = o + 1 := by rw [p1, q1]
    rw [this, show ((o + 1 == 0) = false) from by simp; omega]
    simp

theorem Out.atom (hg : Gd g L n) {alt : RS → RS × PT} {d : Nat} (ha : AltOut g L n alt d) (hfw : AltFwd g alt) (c : Sc) (ho : 0 ≤ c.o) (st : RS) (hn : st.next ≤ L.length) (hd : L.length - st.next ≤ d) (hr : Ready g c st) (h1 : seeOf g st ≠ -1) (h2 : inSet lBarRound (seeOf g st) = false) :
    ∃ k' z', Out L n c st = Out L n ⟨.times, c.o, k', z'⟩ (pAtom g alt st).1 := by
  have hle := hg.len
  have hlt := hg.seen h1
  obtain ⟨m, o, k, z⟩ := c
  have h2' : (seeOf g st == 124) = false ∧ (seeOf g st == 41) = false := by
    rw [show inSet lBarRound (seeOf g st) = (inSet lBar (seeOf g st) || inSet lRound (seeOf g st)) from inSet_app lBar lRound _, in_bar, in_round, Bool.or_eq_false_iff] at h2
    exact h2
  have stp : ∀ r c', seeOf g st = r → scAtom ⟨m, o, k, z⟩ r = some c' → Out L n ⟨m, o, k, z⟩ st = Out L n c' { st with next := st.next + 1 } := by
    intro r c' hr' hs
    refine Out.step hg (fun hf => ⟨h1, ?_⟩)
    rw [hr hf h1, hr']; exact hs
  unfold pAtom
  rw [in_oround, in_osquare, in_back]
  cases g1 : (seeOf g st == 40)
  · cases g2 : (seeOf g st == 91)
    · cases g3 : (seeOf g st == 92)
      · simp only [Bool.false_eq_true, if_false]
        cases g4 : inSet lSingles (seeOf g st)
        · rw [if_neg (by simp)]
          refine ⟨k, z, ?_⟩
          have hsp : inSet kSpecial (seeOf g st) = inSet lNotPlain (seeOf g st) := rfl
          have hat : ∀ r, r = seeOf g st → scAtom ⟨m, o, k, z⟩ r = if inSet kSpecial r then none else some ⟨.times, o, k, z⟩ := by
            intro r hr'
            rw [show lSingles = [46] ++ ([94] ++ [36]) from rfl, inSet_app, inSet_app, one_in, one_in, one_in, Bool.or_eq_false_iff, Bool.or_eq_false_iff] at g4
            unfold scAtom
            rw [hr', h2'.1, h2'.2, g1, g2, g3, show (seeOf g st == 46) = false from g4.1, show (seeOf g st == 94) = false from g4.2.1, show (seeOf g st == 36) = false from g4.2.2]
            rfl
          refine Out.needOther hg hn (fun hf hne h => ?_) (fun hf hne h => ?_) (fun hf he => absurd he h1)
          · rw [hr hf hne, hat _ rfl, hsp, h]; rfl
          · rw [hr hf hne, hat _ rfl, hsp, h]; rfl
        · rw [if_pos rfl]
          refine ⟨k, z, ?_⟩
          refine stp _ _ rfl ?_
          rw [show lSingles = [46] ++ ([94] ++ [36]) from rfl, inSet_app, inSet_app, one_in, one_in, one_in, Bool.or_eq_true, Bool.or_eq_true] at g4
          rcases g4 with h | h | h <;> (rw [beq_iff_eq.1 h]; rfl)
      · simp only [Bool.false_eq_true, if_false, if_true]
        have g3' := beq_iff_eq.1 g3
        refine ⟨k, z, ?_⟩
        rw [stp 92 ⟨.escape, o, k, z⟩ g3' rfl]
        refine Out.need hg (by simp; omega) (fun _ h => ?_) (fun _ _ h => ?_) (fun _ _ => rfl)
        · show (if (inSet kMarks _ || inSet kCtlAll _) = true then _ else _) = _
          rw [← escape_in, h]; rfl
        · show (if (inSet kMarks _ || inSet kCtlAll _) = true then _ else _) = _
          rw [← escape_in, h]; rfl
    · simp only [Bool.false_eq_true, if_false, if_true]
      have g2' := beq_iff_eq.1 g2
      obtain ⟨k', z', q⟩ := Out.class_ hg o k z { st with next := st.next + 1 } (by simp; omega)
      exact ⟨k', z', by rw [stp 91 ⟨.class_, o, k, z⟩ g2' rfl, q]⟩
  · simp only [if_true]
    have g1' := beq_iff_eq.1 g1
    obtain ⟨k', z', q⟩ := Out.bracket hg ha hfw o k z ho { st with next := st.next + 1 } (by simp; omega) (by simp; omega)
    exact ⟨k', z', by rw [stp 40 ⟨.open_, o + 1, k, z⟩ g1' rfl, q]⟩

theorem Out.seqs (hg : Gd g L n) {alt : RS → RS × PT} {d : Nat} (ha : AltOut g L n alt d) (hfw : AltFwd g alt) : ∀ (m : Nat) (c : Sc) (st : RS) (acc : List PT), st.next ≤ L.length → L.length - st.next < m → L.length - st.next ≤ d → Ready g c st → 0 ≤ c.o → (c.o = 0 → isDone c.m = true) →
    ∃ c', c'.o = c.o ∧ Ready g c' (pSeqs g alt m st acc).1 ∧ (c'.o = 0 → isDone c'.m = true) ∧ Out L n c st = Out L n c' (pSeqs g alt m st acc).1 ∧ (seeOf g (pSeqs g alt m st acc).1 = -1 ∨ inSet lBarRound (seeOf g (pSeqs g alt m st acc).1) = true)
  | 0, _, _, _, _, h, _, _, _, _ => by omega
  | m + 1, c, st, acc, h1, h2, h3, h4, h5, h6 => by
    have hle := hg.len
    unfold pSeqs
    by_cases he : seeOf g st = -1 ∨ inSet lBarRound (seeOf g st) = true
    · rw [if_pos he]
      exact ⟨c, rfl, h4, h6, rfl, he⟩
    · rw [if_neg he]
      rw [not_or] at he
      have hlt := hg.seen he.1
      obtain ⟨k1, z1, q1⟩ := Out.atom hg ha hfw c h5 st h1 h3 h4 he.1 (by simpa using he.2)
      have hn1 := pAtom_next g alt hfw st (by omega)
      have hn2 := hn1.2.2 (by omega)
      obtain ⟨c2, p1, p2, p3, p4⟩ := Out.repeated hg c.o k1 z1 (pAtom g alt st).2 (pAtom g alt st).1 (by omega)
      have hn3 := pRepeated_next g (pAtom g alt st).2 (pAtom g alt st).1 (by omega)
      obtain ⟨c3, r1, r2, r3, r4, r5⟩ := Out.seqs hg ha hfw m c2 (pRepeated g (pAtom g alt st).2 (pAtom g alt st).1).1 (acc ++ [(pRepeated g (pAtom g alt st).2 (pAtom g alt st).1).2]) (by omega) (by omega) (by omega) p3 (by omega) (fun _ => p2)
      exact ⟨c3, by rw [r1, p1], r2, r3, by rw [q1, p4, r4], r5⟩

theorem Out.alts (hg : Gd g L n) {alt : RS → RS × PT} {d : Nat} (ha : AltOut g L n alt d) (hfw : AltFwd g alt) : ∀ (m : Nat) (c : Sc) (st : RS) (acc : List PT), st.next ≤ L.length → L.length - st.next < m → L.length - st.next ≤ d → Ready g c st → 0 ≤ c.o → (c.o = 0 → isDone c.m = true) → (seeOf g st = -1 ∨ inSet lBarRound (seeOf g st) = true) →
    ∃ c', c'.o = c.o ∧ Ready g c' (pAlts g alt m st acc).1 ∧ (c'.o = 0 → isDone c'.m = true) ∧ Out L n c st = Out L n c' (pAlts g alt m st acc).1 ∧ (seeOf g (pAlts g alt m st acc).1 = -1 ∨ seeOf g (pAlts g alt m st acc).1 = 41)
  | 0, _, _, _, _, h, _, _, _, _, _ => by omega
  | m + 1, c, st, acc, h1, h2, h3, h4, h5, h6, h7 => by
    have hle := hg.len
    unfold pAlts
    cases hb : inSet lBar (seeOf g st)
    · rw [if_neg (by simp)]
      refine ⟨c, rfl, h4, h6, rfl, ?_⟩
      rcases h7 with h | h
      · exact Or.inl h
      · rw [show inSet lBarRound (seeOf g st) = (inSet lBar (seeOf g st) || inSet lRound (seeOf g st)) from inSet_app lBar lRound _, hb, in_round] at h
        exact Or.inr (by simpa using h)
    · rw [if_pos rfl]
      have hlt := seeOf_lt hb
      rw [in_bar] at hb
      have hb' := beq_iff_eq.1 hb
      have s1 : Out L n c st = Out L n { c with m := .begin } { st with next := st.next + 1 } := Out.step hg (fun hf => ⟨by omega, by rw [h4 hf (by omega), hb']; rfl⟩)
      obtain ⟨c2, p1, p2, p3, p4, p5⟩ := Out.seqs hg ha hfw (g.rs.length + 1) { c with m := .begin } { st with next := st.next + 1 } [] (by simp; omega) (by simp; omega) (by simp; omega) (fun _ _ => rfl) h5 (fun _ => rfl)
      have hn1 := pSeqs_next g alt hfw (g.rs.length + 1) { st with next := st.next + 1 } [] (by simp; omega)
      simp only at hn1
      obtain ⟨c3, r1, r2, r3, r4, r5⟩ := Out.alts hg ha hfw m c2 (pSeq g alt { st with next := st.next + 1 }).1 (acc ++ [(pSeq g alt { st with next := st.next + 1 }).2]) (by show (pSeqs g alt (g.rs.length + 1) { st with next := st.next + 1 } []).1.next ≤ _; omega) (by show L.length - (pSeqs g alt (g.rs.length + 1) { st with next := st.next + 1 } []).1.next < m; omega) (by show L.length - (pSeqs g alt (g.rs.length + 1) { st with next := st.next + 1 } []).1.next ≤ d; omega) p2 (by rw [p1]; exact h5) p3 p5
      exact ⟨c3, by rw [r1, p1], r2, r3, by rw [s1, p4, ← r4]; rfl, r5⟩

theorem Out.alt (hg : Gd g L n) : ∀ k, AltOut g L n (pAlt g k) k
  | 0 => fun _ _ _ h _ _ _ => by omega
  | k + 1 => fun c st h1 h2 h3 h4 h5 => by
    have hle := hg.len
    have hfw := pAlt_fwd g k
    obtain ⟨c2, p1, p2, p3, p4, p5⟩ := Out.seqs hg (Out.alt hg k) hfw (g.rs.length + 1) c st [] h1 (by omega) (by omega) h3 h4 h5
    have hn1 := pSeqs_next g (pAlt g k) hfw (g.rs.length + 1) st [] (by omega)
    obtain ⟨c3, r1, r2, r3, r4, r5⟩ := Out.alts hg (Out.alt hg k) hfw (g.rs.length + 1) c2 (pSeq g (pAlt g k) st).1 [(pSeq g (pAlt g k) st).2] (by show (pSeqs g (pAlt g k) (g.rs.length + 1) st []).1.next ≤ _; omega) (by omega) (by show L.length - (pSeqs g (pAlt g k) (g.rs.length + 1) st []).1.next ≤ k; omega) p2 (by rw [p1]; exact h4) p3 p5
    exact ⟨c3, by rw [r1, p1], r2, r3, p4.trans r4, r5⟩

/-- the whole pattern: what the scan tells is what the reader tells -/
theorem form_alike (hg : Gd g L n) (st : RS) (h0 : st.next = 0) (hf : st.flt.form = none) : (pWhole g st).1.flt.form = formO n sc0 L := by
  have hle := hg.len
  obtain ⟨c2, p1, p2, p3, p4, p5⟩ := Out.alt hg (g.rs.length + 1) sc0 st (by omega) (by omega) (fun _ _ => rfl) (by decide) (fun _ => rfl)
  have hO : Out L n sc0 st = formO n sc0 L := by rw [Out.not hf, h0]; rfl
  have hn := (pAlt_fwd g (g.rs.length + 1) st (by omega)).2
  have ho : c2.o = 0 := p1
  rw [hO] at p4
  unfold pWhole
  by_cases he : seeOf g (pAlt g (g.rs.length + 1) st).1 = -1
  · rw [if_pos he]
    cases hff : (pAlt g (g.rs.length + 1) st).1.flt.form with
    | some p => rw [Out.told hff] at p4; exact p4.symm
    | none =>
      rw [Out.not hff, (hg.end_ (by omega) he).2.1, show formO n c2 [] = if isDone c2.m && c2.o == 0 then none else some n from rfl, p3 ho, ho] at p4
      rw [p4]; rfl
  · rw [if_neg he]
    have h41 : seeOf g (pAlt g (g.rs.length + 1) st).1 = 41 := p5.resolve_left he
    have s1 : Out L n c2 (pAlt g (g.rs.length + 1) st).1 = Out L n c2 (refuseOf g (pAlt g (g.rs.length + 1) st).1) := by
      refine Out.stop hg (by omega) (fun hff hne => ?_) (fun _ h => absurd h he)
      rw [p2 hff hne, h41]
      obtain ⟨m2, o2, k2, z2⟩ := c2
      have ho2 : o2 = 0 := ho
      subst ho2
      rfl
    cases hff : (refuseOf g (pAlt g (g.rs.length + 1) st).1).flt.form with
    | some p => rw [s1, Out.told hff] at p4; exact p4.symm
    | none => exact absurd hff (refuse_form g _)
end Go.Proofs.Ytlimhofdonkljaa
