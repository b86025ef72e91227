/- The form, told alike: classes, names, what stands behind a round bracket. -/
import Derived.Test.YtlimhofdonkljaaEq1
import Derived.Test.YtlimhofdonkljaaBr3
namespace Go.Proofs.Ytlimhofdonkljaa
set_option linter.unusedVariables false

variable {g : RG} {L : List (Nat × Int)} {n : Int}

theorem inSet_app (a b : List UInt8) (r : Int) : inSet (a ++ b) r = (inSet a r || inSet b r) := by unfold inSet; rw [List.any_append]
theorem marks_in (r : Int) : inSet lMarks r = (inSet kMarks r || inSet kCtl r) := inSet_app kMarks kCtl r
theorem escape_in (r : Int) : inSet lEscape r = (inSet kMarks r || inSet kCtlAll r) := inSet_app kMarks kCtlAll r
theorem notOne_in (r : Int) : inSet lNotOne r = ((r == 92) || inSet kClass r) := by
  rw [show lNotOne = [92] ++ kClass from rfl, inSet_app, one_in]
  rfl

/-- what comes next is taken as an item -/
def ItemReady (g : RG) (c : Sc) (st : RS) : Prop := st.flt.form = none → seeOf g st ≠ -1 → scStep c (seeOf g st) = scItem c (seeOf g st)

/-- a ONE: the first of an item, or the one behind a dash -/
theorem Out.oneFirst (hg : Gd g L n) (c : Sc) (st : RS) (hn : st.next ≤ L.length) (hr : ItemReady g c st) (hd : isDone c.m = false) (hs : seeOf g st = 92 → inSet lSets (seeOf g { st with next := st.next + 1 }) = false) : Out L n c st = Out L n { c with m := .one } (pOne' g st).1 := by
  unfold pOne' pOne
  cases hb : inSet lBack (seeOf g st)
  · simp only [Bool.false_eq_true, if_false]
    rw [show takeOf g lBack st = st from by unfold takeOf; rw [if_neg (by rw [hb]; simp)]]
    rw [in_back] at hb
    have hb' : seeOf g st ≠ 92 := by simpa using hb
    refine Out.needOther hg hn (fun hf hne h => ?_) (fun hf hne h => ?_) (fun _ _ => by rw [hd]; rfl)
    · rw [hr hf hne]
      rw [notOne_in, hb] at h
      unfold scItem
      rw [if_neg hb', show inSet kClass (seeOf g st) = false from by simpa using h]
      rfl
    · rw [hr hf hne]
      rw [notOne_in, hb] at h
      unfold scItem
      rw [if_neg hb', show inSet kClass (seeOf g st) = true from by simpa using h]
      rfl
  · simp only [if_true]
    rw [show takeOf g lBack st = { st with next := st.next + 1 } from by unfold takeOf; rw [if_pos hb]]
    have hlt := seeOf_lt hb
    have hle := hg.len
    rw [in_back] at hb
    have hb' := beq_iff_eq.1 hb
    have hset := hs hb'
    have s1 : Out L n c st = Out L n { c with m := .escape1 } { st with next := st.next + 1 } := Out.step hg (fun hf => ⟨by rw [hb']; omega, by rw [hr hf (by rw [hb']; omega), hb']; rfl⟩)
    rw [s1]
    refine Out.need hg (by simp; omega) (fun _ h => ?_) (fun _ _ h => ?_) (fun _ _ => rfl)
    · show (if inSet kSets _ = true then _ else if (inSet kMarks _ || inSet kCtl _) = true then _ else _) = _
      rw [show inSet kSets (seeOf g { st with next := st.next + 1 }) = false from hset, ← marks_in, h]
      rfl
    · show (if inSet kSets _ = true then _ else if (inSet kMarks _ || inSet kCtl _) = true then _ else _) = _
      rw [show inSet kSets (seeOf g { st with next := st.next + 1 }) = false from hset, ← marks_in, h]
      rfl
theorem Out.oneUpto (hg : Gd g L n) (c : Sc) (hc : c.m = .upto) (st : RS) (hn : st.next ≤ L.length) : Out L n c st = Out L n { c with m := .items } (pOne' g st).1 := by
  obtain ⟨m, o, k, z⟩ := c
  simp only at hc
  subst hc
  unfold pOne' pOne
  cases hb : inSet lBack (seeOf g st)
  · simp only [Bool.false_eq_true, if_false]
    rw [show takeOf g lBack st = st from by unfold takeOf; rw [if_neg (by rw [hb]; simp)]]
    rw [in_back] at hb
    refine Out.needOther hg hn (fun hf hne h => ?_) (fun hf hne h => ?_) (fun _ _ => rfl)
    · rw [notOne_in, hb] at h
      show (if (seeOf g st == 92) = true then _ else if inSet kClass (seeOf g st) = true then _ else _) = _
      rw [hb, show inSet kClass (seeOf g st) = false from by simpa using h]
      rfl
    · rw [notOne_in, hb] at h
      show (if (seeOf g st == 92) = true then _ else if inSet kClass (seeOf g st) = true then _ else _) = _
      rw [hb, show inSet kClass (seeOf g st) = true from by simpa using h]
      rfl
  · simp only [if_true]
    rw [show takeOf g lBack st = { st with next := st.next + 1 } from by unfold takeOf; rw [if_pos hb]]
    have hlt := seeOf_lt hb
    have hle := hg.len
    rw [in_back] at hb
    have hb' := beq_iff_eq.1 hb
    have s1 : Out L n ⟨.upto, o, k, z⟩ st = Out L n ⟨.upescape, o, k, z⟩ { st with next := st.next + 1 } := Out.step hg (fun hf => ⟨by rw [hb']; omega, by rw [hb']; rfl⟩)
    rw [s1]
    refine Out.need hg (by simp; omega) (fun _ h => ?_) (fun _ _ h => ?_) (fun _ _ => rfl)
    · show (if (inSet kMarks _ || inSet kCtl _) = true then _ else _) = _
      rw [← marks_in, h]; rfl
    · show (if (inSet kMarks _ || inSet kCtl _) = true then _ else _) = _
      rw [← marks_in, h]; rfl

/-- behind an item -/
def Items (g : RG) (c : Sc) (st : RS) : Prop := c.m = .items ∨ (c.m = .one ∧ seeOf g st ≠ 45)
theorem Items.done {c : Sc} {st : RS} (h : Items g c st) : isDone c.m = false := by rcases h with h | ⟨h, _⟩ <;> rw [h] <;> rfl
theorem Items.ready {c : Sc} {st : RS} (h : Items g c st) (hn : seeOf g st ≠ 93) : ItemReady g c st := by
  intro _ _
  obtain ⟨m, o, k, z⟩ := c
  rcases h with h | ⟨h, h45⟩
  · simp only at h
    subst h
    show (if (seeOf g st == 93) = true then _ else _) = _
    rw [if_neg (by simpa using hn)]
  · simp only at h
    subst h
    show (if (seeOf g st == 45) = true then _ else if (seeOf g st == 93) = true then _ else _) = _
    rw [if_neg (by simpa using h45), if_neg (by simpa using hn)]

theorem Out.item (hg : Gd g L n) (c : Sc) (st : RS) (hn : st.next ≤ L.length) (hr : ItemReady g c st) (hd : isDone c.m = false) : ∃ c', c'.o = c.o ∧ Items g c' (pItem g st) ∧ Out L n c st = Out L n c' (pItem g st) := by
  have hle := hg.len
  unfold pItem
  by_cases h : inSet lBack (seeOf g st) = true ∧ inSet lSets (seeOf g { st with next := st.next + 1 }) = true
  · rw [if_pos h]
    have h1 := h.1
    have hlt := seeOf_lt h.2
    simp only at hlt
    rw [in_back] at h1
    have hb' := beq_iff_eq.1 h1
    refine ⟨{ c with m := .items }, rfl, Or.inl rfl, ?_⟩
    have s1 : Out L n c st = Out L n { c with m := .escape1 } { st with next := st.next + 1 } := Out.step hg (fun hf => ⟨by rw [hb']; omega, by rw [hr hf (by rw [hb']; omega), hb']; rfl⟩)
    rw [s1]
    refine Out.step hg (st := { st with next := st.next + 1 }) (fun _ => ⟨?_, ?_⟩)
    · intro e; have := h.2; rw [e, inSet_end] at this; exact absurd this (by simp)
    · show (if inSet kSets _ = true then _ else _) = _
      rw [show inSet kSets (seeOf g { st with next := st.next + 1 }) = true from h.2]; rfl
  · rw [if_neg h]
    have s1 := Out.oneFirst hg c st hn hr hd (fun e => by
      cases hs : inSet lSets (seeOf g { st with next := st.next + 1 })
      · rfl
      · exact absurd ⟨by rw [e]; rfl, hs⟩ h)
    have hnx := pOne'_next g st (by omega)
    unfold pUpto
    cases hda : inSet lDash (seeOf g (pOne' g st).1)
    · rw [if_neg (by simp)]
      rw [in_dash] at hda
      exact ⟨{ c with m := .one }, rfl, Or.inr ⟨rfl, by simpa using hda⟩, s1⟩
    · rw [if_pos rfl]
      have hlt := seeOf_lt hda
      rw [in_dash] at hda
      have hda' := beq_iff_eq.1 hda
      refine ⟨{ c with m := .items }, rfl, ?_, ?_⟩
      · split <;> exact Or.inl rfl
      · rw [s1]
        have s2 : Out L n { c with m := .one } (pOne' g st).1 = Out L n { c with m := .upto } { (pOne' g st).1 with next := (pOne' g st).1.next + 1 } := Out.step hg (fun _ => ⟨by omega, by rw [hda']; rfl⟩)
        have s3 := Out.oneUpto hg { c with m := .upto } rfl { (pOne' g st).1 with next := (pOne' g st).1.next + 1 } (by simp; omega)
        rw [s2, s3]
        split
        · rw [Out.note (by omega)]
        · rfl

theorem Out.items (hg : Gd g L n) : ∀ (m : Nat) (c : Sc) (st : RS), st.next ≤ L.length → L.length - st.next < m → Items g c st → ∃ c', c'.o = c.o ∧ Items g c' (pItems g m st) ∧ (seeOf g (pItems g m st) = -1 ∨ seeOf g (pItems g m st) = 93) ∧ (pItems g m st).next ≤ L.length ∧ Out L n c st = Out L n c' (pItems g m st)
  | 0, c, st, h1, h2, h3 => by omega
  | m + 1, c, st, h1, h2, h3 => by
    have hle := hg.len
    unfold pItems
    by_cases h : seeOf g st = -1 ∨ inSet lSquare (seeOf g st) = true
    · rw [if_pos h]
      refine ⟨c, rfl, h3, ?_, h1, rfl⟩
      rcases h with h | h
      · exact Or.inl h
      · rw [in_square] at h; exact Or.inr (beq_iff_eq.1 h)
    · rw [if_neg h]
      rw [not_or, in_square] at h
      have hnx := pItem_next g st (by omega)
      have hlt := hg.seen h.1
      have h4 := hnx.2.2 (by omega)
      obtain ⟨c1, q1, q2, q3⟩ := Out.item hg c st h1 (h3.ready (by simpa using h.2)) h3.done
      obtain ⟨c2, p1, p2, p3, p4, p5⟩ := Out.items hg m c1 (pItem g st) (by omega) (by omega) q2
      exact ⟨c2, by rw [p1, q1], p2, p3, p4, by rw [q3, p5]⟩

theorem Out.class_ (hg : Gd g L n) (o k : Int) (z : Bool) (st : RS) (hn : st.next ≤ L.length) : ∃ k' z', Out L n ⟨.class_, o, k, z⟩ st = Out L n ⟨.times, o, k', z'⟩ (pClass g st) := by
  have hle := hg.len
  have key : ∀ (c : Sc) (s : RS), s.next ≤ L.length → c.o = o → ItemReady g c s → isDone c.m = false → ∃ k' z', Out L n c s = Out L n ⟨.times, o, k', z'⟩ (needSt g lSquare (pItems g (g.rs.length + 1) (pItem g s))) := by
    intro c s hs ho hr hd
    have hnx := pItem_next g s (by omega)
    obtain ⟨c1, q1, q2, q3⟩ := Out.item hg c s hs hr hd
    obtain ⟨c2, p1, p2, p3, p4, p5⟩ := Out.items hg (g.rs.length + 1) c1 (pItem g s) (by omega) (by omega) q2
    refine ⟨c2.n, c2.z, ?_⟩
    rw [q3, p5]
    refine Out.need hg p4 (fun _ h => ?_) (fun _ h1 h2 => ?_) (fun _ _ => by rw [p2.done]; rfl)
    · rw [in_square] at h
      rw [beq_iff_eq.1 h]
      obtain ⟨m2, o2, k2, z2⟩ := c2
      have ho2 : o2 = o := by have := p1.trans (q1.trans ho); exact this
      subst ho2
      rcases p2 with h' | ⟨h', _⟩ <;> (simp only at h'; subst h'; rfl)
    · rw [in_square] at h2
      rcases p3 with h' | h'
      · exact absurd h' h1
      · rw [h'] at h2; exact absurd h2 (by decide)
  unfold pClass takeOf
  cases hc : inSet lCaret (seeOf g st)
  · rw [if_neg (by simp)]
    rw [in_caret] at hc
    refine key ⟨.class_, o, k, z⟩ st hn rfl (fun _ _ => ?_) rfl
    show (if (seeOf g st == 94) = true then _ else if (seeOf g st == 93) = true then _ else _) = _
    rw [hc]
    cases h93 : (seeOf g st == 93)
    · rfl
    · rw [beq_iff_eq.1 h93]; rfl
  · rw [if_pos rfl]
    have hlt := seeOf_lt hc
    rw [in_caret] at hc
    have hc' := beq_iff_eq.1 hc
    obtain ⟨k', z', q⟩ := key ⟨.first, o, k, z⟩ { st with next := st.next + 1 } (by simp; omega) rfl (fun _ _ => by
      show (if (seeOf g { st with next := st.next + 1 } == 93) = true then _ else _) = _
      cases h93 : (seeOf g { st with next := st.next + 1 } == 93)
      · rfl
      · rw [beq_iff_eq.1 h93]; rfl) rfl
    refine ⟨k', z', ?_⟩
    rw [← q]
    exact Out.step hg (fun _ => ⟨by omega, by rw [hc']; rfl⟩)
end Go.Proofs.Ytlimhofdonkljaa
