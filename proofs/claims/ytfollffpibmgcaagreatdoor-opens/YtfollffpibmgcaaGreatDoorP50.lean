/- The form of a pattern, told by the program's reader (mirror: Pm) and by the document's scan (Sc), is told alike: 'Out c st' is what the scan tells from where the reader stands, or what the reader has told already; each step of the reader leaves it as it is. Here: the words, and the small steps. The form, told alike: numbers, times, classes. The form, told alike: classes, names, what stands behind a round bracket. The form, told alike: names, brackets, atoms, the whole pattern. -/
import Derived.Test.YtfollffpibmgcaaGreatDoorP35
import Derived.Test.YtfollffpibmgcaaGreatDoorP02
import Derived.Test.YtfollffpibmgcaaGreatDoorP22
import Derived.Test.YtfollffpibmgcaaGreatDoorP36
import Derived.Test.YtfollffpibmgcaaGreatDoorP43
namespace Go.Proofs.YtfollffpibmgcaaGreatDoor
set_option linter.unusedVariables false
set_option maxRecDepth 100000
structure Gd (g : RG) (L : List (Nat × Int)) (n : Int) : Prop where
 rs : g.rs = L.map (·.2)
 ps : ∀ i, (h : i < L.length) → g.ps.getD i 0 = L[i].1
 pe : g.ps.getD L.length 0 = n
 nn : ∀ p ∈ L, 0 ≤ p.2
theorem Gd.len {g : RG} {L : List (Nat × Int)} {n : Int} (h : Gd g L n) : g.rs.length = L.length := by rw [h.rs]; simp
def formO (n : Int) : Sc → List (Nat × Int) → Option Int
 | c, [] => if isDone c.m && c.o == 0 then none else some n
 | c, p :: l => match scStep c p.2 with
  | some c' => formO n c' l
  | none => some p.1
theorem formO_some {n : Int} {c c' : Sc} {p : Nat × Int} {l : List (Nat × Int)} (h : scStep c p.2 = some c') : formO n c (p :: l) = formO n c' l := by
 rw [show formO n c (p :: l) = match scStep c p.2 with | some c' => formO n c' l | none => some (p.1 : Int) from rfl, h]
theorem formO_none {n : Int} {c : Sc} {p : Nat × Int} {l : List (Nat × Int)} (h : scStep c p.2 = none) : formO n c (p :: l) = some (p.1 : Int) := by
 rw [show formO n c (p :: l) = match scStep c p.2 with | some c' => formO n c' l | none => some (p.1 : Int) from rfl, h]
theorem formOf_eq (n : Int) : ∀ (L : List (Nat × Int)) (c : Sc), formOf n c L = (formO n c L).getD (-1)
 | [], c => by
  unfold formOf formO
  split <;> rfl
 | p :: l, c => by
  cases h : scStep c p.2 with
  | some c' => rw [formOf_some h, formO_some h]; exact formOf_eq n l c'
  | none => rw [formOf_none h, formO_none h]; rfl
theorem formO_pos {n : Int} (hn : 0 ≤ n) : ∀ (L : List (Nat × Int)) (c : Sc) (q : Int), formO n c L = some q → 0 ≤ q
 | [], c, q, h => by
  unfold formO at h
  split at h
  ·simp at h
  ·simp at h; omega
 | p :: l, c, q, h => by
  cases hs : scStep c p.2 with
  | some c' => rw [formO_some hs] at h; exact formO_pos hn l c' q h
  | none => rw [formO_none hs] at h; simp at h; omega
def Out (L : List (Nat × Int)) (n : Int) (c : Sc) (st : RS) : Option Int := match st.flt.form with
 | some p => some p
 | none => formO n c (L.drop st.next)
theorem Out.told {L : List (Nat × Int)} {n : Int} {c : Sc} {st : RS} {p : Int} (h : st.flt.form = some p) : Out L n c st = some p := by unfold Out; rw [h]
theorem Out.not {L : List (Nat × Int)} {n : Int} {c : Sc} {st : RS} (h : st.flt.form = none) : Out L n c st = formO n c (L.drop st.next) := by unfold Out; rw [h]
theorem refuse_told {g : RG} {st : RS} {p : Int} (h : st.flt.form = some p) : (refuseOf g st).flt.form = some p := by
 simp [refuseOf, RS.note, Flt.note, Flt.get, h]
theorem refuse_new {g : RG} {st : RS} (h : st.flt.form = none) : (refuseOf g st).flt.form = some (placeOf g st) := by
 simp [refuseOf, RS.note, Flt.note, Flt.get, h, Flt.put]
theorem note_told {st : RS} {e p : Int} (he : e ≠ 3) : (st.note e p).flt.form = st.flt.form := by
 unfold RS.note Flt.note
 simp only
 split
 ·rfl
 ·unfold Flt.put
  repeat' split
  all_goals first | rfl | (exfalso; omega)
theorem Gd.at {g : RG} {L : List (Nat × Int)} {n : Int} (h : Gd g L n) {st : RS} (hlt : st.next < L.length) : L.drop st.next = (L[st.next].1, seeOf g st) :: L.drop (st.next + 1) ∧ placeOf g st = L[st.next].1 ∧ 0 ≤ seeOf g st := by
 have e : seeOf g st = L[st.next].2 := by
  unfold seeOf
  rw [h.rs]
  simp [List.getD, List.getElem?_eq_getElem hlt]
 refine ⟨?_, h.ps _ hlt, ?_⟩
 ·rw [e]; exact List.drop_eq_getElem_cons hlt
 ·rw [e]; exact h.nn _ (List.getElem_mem hlt)
theorem Gd.seen {g : RG} {L : List (Nat × Int)} {n : Int} (h : Gd g L n) {st : RS} (hs : seeOf g st ≠ -1) : st.next < L.length := by
 have := lt_of_see hs
 have := h.len
 omega
theorem Gd.end_ {g : RG} {L : List (Nat × Int)} {n : Int} (h : Gd g L n) {st : RS} (hn : st.next ≤ L.length) (hs : seeOf g st = -1) : st.next = L.length ∧ L.drop st.next = [] ∧ placeOf g st = n := by
 have h1 : st.next = L.length := by
  apply Decidable.byContradiction
  intro hne
  have := (h.at (st := st) (by omega)).2.2
  omega
 refine ⟨h1, by rw [h1]; simp, ?_⟩
 have := h.pe
 rw [← h1] at this
 exact this
theorem Out.step {g : RG} {L : List (Nat × Int)} {n : Int} (hg : Gd g L n) {c c' : Sc} {st : RS} (hs : st.flt.form = none → seeOf g st ≠ -1 ∧ scStep c (seeOf g st) = some c') : Out L n c st = Out L n c' { st with next := st.next + 1 } := by
 cases hf : st.flt.form with
 | some p => rw [Out.told hf, Out.told (st := { st with next := st.next + 1 }) hf]
 | none =>
  obtain ⟨h1, h2⟩ := hs hf
  rw [Out.not hf, Out.not (st := { st with next := st.next + 1 }) hf, (hg.at (hg.seen h1)).1]
  exact formO_some h2
theorem Out.stop {g : RG} {L : List (Nat × Int)} {n : Int} (hg : Gd g L n) {c c' : Sc} {st : RS} (hn : st.next ≤ L.length) (hno : st.flt.form = none → seeOf g st ≠ -1 → scStep c (seeOf g st) = none) (hend : st.flt.form = none → seeOf g st = -1 → (isDone c.m && c.o == 0) = false) : Out L n c st = Out L n c' (refuseOf g st) := by
 cases hf : st.flt.form with
 | some p => rw [Out.told hf, Out.told (refuse_told hf)]
 | none =>
  rw [Out.not hf, Out.told (refuse_new hf)]
  by_cases he : seeOf g st = -1
  ·obtain ⟨h1, h2, h3⟩ := hg.end_ hn he
   rw [h2, h3]
   unfold formO
   rw [hend hf he]
   rfl
  ·have hl := hg.seen he
   obtain ⟨h1, h2, h3⟩ := hg.at hl
   rw [h1, h2]
   exact formO_none (p := (L[st.next].1, seeOf g st)) (hno hf he)
theorem Out.need {g : RG} {L : List (Nat × Int)} {n : Int} (hg : Gd g L n) {c c' : Sc} {st : RS} {l : List UInt8} (hn : st.next ≤ L.length) (hyes : st.flt.form = none → inSet l (seeOf g st) = true → scStep c (seeOf g st) = some c')
  (hno : st.flt.form = none → seeOf g st ≠ -1 → inSet l (seeOf g st) = false → scStep c (seeOf g st) = none) (hend : st.flt.form = none → seeOf g st = -1 → (isDone c.m && c.o == 0) = false) : Out L n c st = Out L n c' (needSt g l st) := by
 unfold needSt
 cases h : inSet l (seeOf g st)
 ·exact Out.stop hg hn (fun a b => hno a b h) hend
 ·exact Out.step hg (fun a => ⟨by intro e; rw [e, inSet_end] at h; exact absurd h (by simp), hyes a h⟩)
theorem Out.needOther {g : RG} {L : List (Nat × Int)} {n : Int} (hg : Gd g L n) {c c' : Sc} {st : RS} {l : List UInt8} (hn : st.next ≤ L.length) (hyes : st.flt.form = none → seeOf g st ≠ -1 → inSet l (seeOf g st) = false → scStep c (seeOf g st) = some c')
  (hno : st.flt.form = none → seeOf g st ≠ -1 → inSet l (seeOf g st) = true → scStep c (seeOf g st) = none) (hend : st.flt.form = none → seeOf g st = -1 → (isDone c.m && c.o == 0) = false) : Out L n c st = Out L n c' (needOtherSt g l st) := by
 unfold needOtherSt
 by_cases h : seeOf g st = -1 ∨ inSet l (seeOf g st) = true
 ·rw [if_pos h]
  refine Out.stop hg hn (fun a b => ?_) hend
  rcases h with h | h
  ·exact absurd h b
  ·exact hno a b h
 ·rw [if_neg h]
  rw [not_or] at h
  exact Out.step hg (fun a => ⟨h.1, hyes a h.1 (by simpa using h.2)⟩)
theorem Out.note {L : List (Nat × Int)} {n : Int} {c : Sc} {st : RS} {e p : Int} (he : e ≠ 3) : Out L n c (st.note e p) = Out L n c st := by
 unfold Out
 rw [note_told he]
 rfl
theorem Out.same {L : List (Nat × Int)} {n : Int} {c : Sc} {st st' : RS} (h1 : st'.flt.form = st.flt.form) (h2 : st'.next = st.next) : Out L n c st' = Out L n c st := by
 unfold Out
 rw [h1, h2]
end Go.Proofs.YtfollffpibmgcaaGreatDoor
namespace Go.Proofs.YtfollffpibmgcaaGreatDoor
set_option linter.unusedVariables false
set_option maxRecDepth 100000
theorem one_in (b : UInt8) (r : Int) : inSet [b] r = (r == (b.toNat : Int)) := by
 unfold inSet
 simp only [List.any_cons, List.any_nil, Bool.or_false]
 rw [Bool.eq_iff_iff]
 simp only [beq_iff_eq]
 exact ⟨fun h => h.symm, fun h => h.symm⟩
theorem in_brace (r : Int) : inSet lBrace r = (r == 125) := one_in 125 r
theorem in_comma (r : Int) : inSet lComma r = (r == 44) := one_in 44 r
theorem in_query (r : Int) : inSet lQuery r = (r == 63) := one_in 63 r
theorem in_star (r : Int) : inSet lStar r = (r == 42) := one_in 42 r
theorem in_plus (r : Int) : inSet lPlus r = (r == 43) := one_in 43 r
theorem in_obrace (r : Int) : inSet lOpenBrace r = (r == 123) := one_in 123 r
theorem in_back (r : Int) : inSet lBack r = (r == 92) := one_in 92 r
theorem in_dash (r : Int) : inSet lDash r = (r == 45) := one_in 45 r
theorem in_caret (r : Int) : inSet lCaret r = (r == 94) := one_in 94 r
theorem in_square (r : Int) : inSet lSquare r = (r == 93) := one_in 93 r
theorem in_osquare (r : Int) : inSet lOpenSquare r = (r == 91) := one_in 91 r
theorem in_oround (r : Int) : inSet lOpenRound r = (r == 40) := one_in 40 r
theorem in_round (r : Int) : inSet lRound r = (r == 41) := one_in 41 r
theorem in_bar (r : Int) : inSet lBar r = (r == 124) := one_in 124 r
theorem in_less (r : Int) : inSet lLess r = (r == 60) := one_in 60 r
theorem in_greater (r : Int) : inSet lGreater r = (r == 62) := one_in 62 r
theorem in_i (r : Int) : inSet lI r = (r == 105) := one_in 105 r
theorem in_colon (r : Int) : inSet lColon r = (r == 58) := one_in 58 r
variable {g : RG} {L : List (Nat × Int)} {n : Int}
theorem Out.number (hg : Gd g L n) {m : M} (hm : m = .low ∨ m = .high) (o : Int) (st : RS) (hn : st.next ≤ L.length) (hb : m = .high → seeOf g st ≠ 125) :
  ∃ (k : Int) (z : Bool), Out L n ⟨m, o, 0, false⟩ st = Out L n ⟨m, o, k, z⟩ (pNumber g st).1 ∧ 1 ≤ k ∧ ((pNumber g st).1.flt.form = none → inSet lDigits (seeOf g (pNumber g st).1) = true → (k = 2 ∨ (k = 1 ∧ z = true))) := by
 have hnd : (isDone m && o == 0) = false := by rcases hm with rfl | rfl <;> rfl
 have step : ∀ c r, c.m = m → scStep c r = scCounts c r := by
  intro c r hc
  obtain ⟨cm, co, cn, cz⟩ := c
  simp only at hc
  subst hc
  rcases hm with rfl | rfl <;> rfl
 cases hd : inSet lDigits (seeOf g st)
 ·have e1 : pDigit g st = (refuseOf g st, 0) := by simp [pDigit, hd]
  have e2 : pNumber g st = (refuseOf g st, 0) := by unfold pNumber; rw [if_neg (by rw [e1]; simp), e1]
  rw [e2]
  refine ⟨1, true, ?_, by omega, fun h => absurd h (refuse_form g st)⟩
  refine Out.stop hg hn (fun _ _ => ?_) (fun _ _ => hnd)
  rw [step _ _ rfl]
  rw [digits_eq] at hd
  unfold scCounts
  simp only [hd]
  rcases hm with rfl | rfl
  ·simp
  ·have := hb rfl
   simp [this]
 ·have e1 : pDigit g st = ({ st with next := st.next + 1 }, seeOf g st - 48) := by simp [pDigit, hd]
  have hl := seeOf_lt hd
  have hr := inSet_digits hd
  have hd' := hd
  rw [digits_eq] at hd'
  have s1 : Out L n ⟨m, o, 0, false⟩ st = Out L n ⟨m, o, 1, seeOf g st == 48⟩ { st with next := st.next + 1 } := by
   refine Out.step hg (fun _ => ⟨by omega, ?_⟩)
   rw [step _ _ rfl]
   unfold scCounts
   simp [hd']
  by_cases h2 : 0 < (pDigit g st).2 ∧ inSet lDigits (seeOf g (pDigit g st).1) = true
  ·rw [show pNumber g st = ((pDigit g (pDigit g st).1).1, 10 * (pDigit g st).2 + (pDigit g (pDigit g st).1).2) from by unfold pNumber; rw [if_pos h2]]
   rw [e1] at h2 ⊢
   obtain ⟨h3, h4⟩ := h2
   simp only at h3 h4
   have e3 : pDigit g { st with next := st.next + 1 } = ({ st with next := st.next + 2 }, seeOf g { st with next := st.next + 1 } - 48) := by simp [pDigit, h4]
   rw [e3]
   have hr2 := inSet_digits h4
   rw [digits_eq] at h4
   refine ⟨2, false, ?_, by omega, fun _ _ => Or.inl rfl⟩
   rw [s1]
   have : (seeOf g st == 48) = false := by simp; omega
   rw [this]
   refine Out.step hg (st := { st with next := st.next + 1 }) (fun _ => ⟨by omega, ?_⟩)
   rw [step _ _ rfl]
   unfold scCounts
   simp [h4]
  ·rw [show pNumber g st = pDigit g st from by unfold pNumber; rw [if_neg h2]]
   rw [e1] at h2 ⊢
   refine ⟨1, seeOf g st == 48, s1, by omega, fun _ h => Or.inr ⟨rfl, ?_⟩⟩
   simp only at h h2
   have : ¬ 0 < seeOf g st - 48 := fun h' => h2 ⟨h', h⟩
   simp; omega
theorem Out.braceEnd (hg : Gd g L n) {m : M} (hm : m = .low ∨ m = .high) (o k : Int) (z : Bool) (st : RS) (hn : st.next ≤ L.length) (hk : m = .low → 1 ≤ k) (hk0 : 0 ≤ k) (hc : m = .low → seeOf g st ≠ 44)
  (hd : st.flt.form = none → inSet lDigits (seeOf g st) = true → (k = 2 ∨ (k = 1 ∧ z = true))) : Out L n ⟨m, o, k, z⟩ st = Out L n ⟨.lazy, o, k, z⟩ (needSt g lBrace st) := by
 have step : ∀ c r, c.m = m → scStep c r = scCounts c r := by
  intro c r hc
  obtain ⟨cm, co, cn, cz⟩ := c
  simp only at hc
  subst hc
  rcases hm with rfl | rfl <;> rfl
 refine Out.need hg hn (fun _ h => ?_) (fun hf _ h => ?_) (fun _ _ => by rcases hm with rfl | rfl <;> rfl)
 ·rw [in_brace] at h
  rw [beq_iff_eq.1 h, step _ _ rfl]
  unfold scCounts
  rw [digit125]
  rcases hm with rfl | rfl
  ·have := hk rfl
   simp; omega
  ·simp
 ·rw [in_brace] at h
  rw [step _ _ rfl]
  unfold scCounts
  cases hdg : digitOf (seeOf g st)
  ·rcases hm with rfl | rfl
   ·have := hc rfl
    simp [h, this]
   ·simp [h]
  ·rcases hd hf (by rw [digits_eq]; exact hdg) with rfl | ⟨rfl, rfl⟩ <;> simp
theorem Out.bounds (hg : Gd g L n) (o : Int) (st : RS) (hn : st.next ≤ L.length) : ∃ (k : Int) (z : Bool), Out L n ⟨.low, o, 0, false⟩ st = Out L n ⟨.lazy, o, k, z⟩ (pBounds g st).1 := by
 obtain ⟨k, z, h1, h2, h3⟩ := Out.number hg (Or.inl rfl) o st hn (fun h => by cases h)
 have hle := hg.len
 have hnx := pNumber_next g st (by omega)
 unfold pBounds
 cases hc : inSet lComma (seeOf g (pNumber g st).1)
 ·rw [if_neg (by simp)]
  rw [in_comma] at hc
  refine ⟨k, z, ?_⟩
  rw [h1]
  exact Out.braceEnd hg (Or.inl rfl) o k z _ (by omega) (fun _ => h2) (by omega) (fun _ => by intro e; rw [e] at hc; exact absurd hc (by decide)) h3
 ·rw [if_pos rfl]
  have hl := seeOf_lt hc
  rw [in_comma] at hc
  have hc' := beq_iff_eq.1 hc
  have s1 : Out L n ⟨.low, o, k, z⟩ (pNumber g st).1 = Out L n ⟨.high, o, 0, false⟩ { (pNumber g st).1 with next := (pNumber g st).1.next + 1 } := by
   refine Out.step hg (fun _ => ⟨by omega, ?_⟩)
   rw [hc']
   rw [show scStep ⟨.low, o, k, z⟩ 44 = scCounts ⟨.low, o, k, z⟩ 44 from rfl]
   unfold scCounts
   rw [digit44]
   simp; omega
  simp only
  unfold pHigh
  cases hb : inSet lBrace (seeOf g { (pNumber g st).1 with next := (pNumber g st).1.next + 1 })
  ·rw [if_neg (by simp)]
   rw [in_brace] at hb
   obtain ⟨k', z', q1, q2, q3⟩ := Out.number hg (Or.inr rfl) o { (pNumber g st).1 with next := (pNumber g st).1.next + 1 } (by simp; omega) (fun _ e => by rw [e] at hb; exact absurd hb (by decide))
   have hnx2 := pNumber_next g { (pNumber g st).1 with next := (pNumber g st).1.next + 1 } (by simp; omega)
   refine ⟨k', z', ?_⟩
   rw [h1, s1, q1]
   exact Out.braceEnd hg (Or.inr rfl) o k' z' _ (by omega) (fun h => by cases h) (by omega) (fun h => by cases h) q3
  ·rw [if_pos rfl]
   refine ⟨0, false, ?_⟩
   rw [h1, s1]
   have hb' := hb
   rw [in_brace] at hb'
   exact Out.braceEnd hg (Or.inr rfl) o 0 false _ (by simp; omega) (fun h => by cases h) (by omega) (fun h => by cases h) (fun _ h => by rw [beq_iff_eq.1 hb'] at h; exact absurd h (by decide))
def Ready (g : RG) (c : Sc) (st : RS) : Prop := st.flt.form = none → seeOf g st ≠ -1 → scStep c (seeOf g st) = scAtom c (seeOf g st)
theorem Out.lazy (hg : Gd g L n) (o k : Int) (z : Bool) (st : RS) (hn : st.next ≤ L.length) : ∃ c', c'.o = o ∧ isDone c'.m = true ∧ Ready g c' (takeOf g lQuery st) ∧ Out L n ⟨.lazy, o, k, z⟩ st = Out L n c' (takeOf g lQuery st) := by
 unfold takeOf
 cases hq : inSet lQuery (seeOf g st)
 ·rw [if_neg (by simp)]
  rw [in_query] at hq
  refine ⟨⟨.lazy, o, k, z⟩, rfl, rfl, fun _ _ => ?_, rfl⟩
  show (if (seeOf g st == 63) = true then _ else _) = _
  rw [hq]; rfl
 ·rw [if_pos rfl]
  rw [in_query] at hq
  refine ⟨⟨.more, o, k, z⟩, rfl, rfl, fun _ _ => rfl, ?_⟩
  refine Out.step hg (fun _ => ⟨by rw [beq_iff_eq.1 hq]; omega, ?_⟩)
  rw [beq_iff_eq.1 hq]; rfl
theorem Out.repeated (hg : Gd g L n) (o k : Int) (z : Bool) (A : PT) (st : RS) (hn : st.next ≤ L.length) : ∃ c', c'.o = o ∧ isDone c'.m = true ∧ Ready g c' (pRepeated g A st).1 ∧ Out L n ⟨.times, o, k, z⟩ st = Out L n c' (pRepeated g A st).1 := by
 have hle := hg.len
 have key : ∀ r, seeOf g st = r → r ≠ -1 → scStep ⟨.times, o, k, z⟩ r = some ⟨.lazy, o, k, z⟩ → ∃ c', c'.o = o ∧ isDone c'.m = true ∧ Ready g c' (takeOf g lQuery { st with next := st.next + 1 }) ∧ Out L n ⟨.times, o, k, z⟩ st = Out L n c' (takeOf g lQuery { st with next := st.next + 1 }) := by
  intro r hr h1 h2
  have hl := hg.seen (st := st) (by rw [hr]; exact h1)
  obtain ⟨c', q1, q2, q3, q4⟩ := Out.lazy hg o k z { st with next := st.next + 1 } (by simp; omega)
  refine ⟨c', q1, q2, q3, ?_⟩
  rw [← q4]
  exact Out.step hg (fun _ => ⟨by rw [hr]; exact h1, by rw [hr]; exact h2⟩)
 unfold pRepeated
 rw [in_star, in_plus, in_query, in_obrace]
 cases h1 : (seeOf g st == 42)
 ·cases h2 : (seeOf g st == 43)
  ·cases h3 : (seeOf g st == 63)
   ·cases h4 : (seeOf g st == 123)
    ·simp only [Bool.false_eq_true, if_false]
     refine ⟨⟨.times, o, k, z⟩, rfl, rfl, fun _ _ => ?_, rfl⟩
     show (if (seeOf g st == 42) = true then _ else if (seeOf g st == 43) = true then _ else if (seeOf g st == 63) = true then _ else if (seeOf g st == 123) = true then _ else _) = _
     rw [h1, h2, h3, h4]; rfl
    ·simp only [Bool.false_eq_true, if_false, if_true]
     have hr := beq_iff_eq.1 h4
     have hl := hg.seen (st := st) (by rw [hr]; omega)
     obtain ⟨k', z', q1⟩ := Out.bounds hg o { st with next := st.next + 1 } (by simp; omega)
     have hnx := pBounds_next g { st with next := st.next + 1 } (by simp; omega)
     have s1 : Out L n ⟨.times, o, k, z⟩ st = Out L n ⟨.low, o, 0, false⟩ { st with next := st.next + 1 } := Out.step hg (fun _ => ⟨by rw [hr]; omega, by rw [hr]; rfl⟩)
     rw [s1, q1]
     split
     ·obtain ⟨c', p1, p2, p3, p4⟩ := Out.lazy hg o k' z' ((pBounds g { st with next := st.next + 1 }).1.note 4 (placeOf g st)) (by rw [note_next]; omega)
      refine ⟨c', p1, p2, p3, ?_⟩
      rw [← p4, Out.note (by omega)]
     ·obtain ⟨c', p1, p2, p3, p4⟩ := Out.lazy hg o k' z' (pBounds g { st with next := st.next + 1 }).1 (by omega)
      exact ⟨c', p1, p2, p3, p4⟩
   ·simp only [Bool.false_eq_true, if_false, if_true]
    exact key 63 (beq_iff_eq.1 h3) (by omega) rfl
  ·simp only [Bool.false_eq_true, if_false, if_true]
   exact key 43 (beq_iff_eq.1 h2) (by omega) rfl
 ·simp only [if_true]
  exact key 42 (beq_iff_eq.1 h1) (by omega) rfl
end Go.Proofs.YtfollffpibmgcaaGreatDoor
namespace Go.Proofs.YtfollffpibmgcaaGreatDoor
set_option linter.unusedVariables false
set_option maxRecDepth 100000
variable {g : RG} {L : List (Nat × Int)} {n : Int}
theorem inSet_app (a b : List UInt8) (r : Int) : inSet (a ++ b) r = (inSet a r || inSet b r) := by unfold inSet; rw [List.any_append]
theorem marks_in (r : Int) : inSet lMarks r = (inSet kMarks r || inSet kCtl r) := inSet_app kMarks kCtl r
theorem escape_in (r : Int) : inSet lEscape r = (inSet kMarks r || inSet kCtlAll r) := inSet_app kMarks kCtlAll r
theorem notOne_in (r : Int) : inSet lNotOne r = ((r == 92) || inSet kClass r) := by
 rw [show lNotOne = [92] ++ kClass from rfl, inSet_app, one_in]
 rfl
def ItemReady (g : RG) (c : Sc) (st : RS) : Prop := st.flt.form = none → seeOf g st ≠ -1 → scStep c (seeOf g st) = scItem c (seeOf g st)
theorem Out.oneFirst (hg : Gd g L n) (c : Sc) (st : RS) (hn : st.next ≤ L.length) (hr : ItemReady g c st) (hd : isDone c.m = false) (hs : seeOf g st = 92 → inSet lSets (seeOf g { st with next := st.next + 1 }) = false) : Out L n c st = Out L n { c with m := .one } (pOne' g st).1 := by
 unfold pOne' pOne
 cases hb : inSet lBack (seeOf g st)
 ·simp only [Bool.false_eq_true, if_false]
  rw [show takeOf g lBack st = st from by unfold takeOf; rw [if_neg (by rw [hb]; simp)]]
  rw [in_back] at hb
  have hb' : seeOf g st ≠ 92 := by simpa using hb
  refine Out.needOther hg hn (fun hf hne h => ?_) (fun hf hne h => ?_) (fun _ _ => by rw [hd]; rfl)
  ·rw [hr hf hne]
   rw [notOne_in, hb] at h
   unfold scItem
   rw [if_neg hb', show inSet kClass (seeOf g st) = false from by simpa using h]
   rfl
  ·rw [hr hf hne]
   rw [notOne_in, hb] at h
   unfold scItem
   rw [if_neg hb', show inSet kClass (seeOf g st) = true from by simpa using h]
   rfl
 ·simp only [if_true]
  rw [show takeOf g lBack st = { st with next := st.next + 1 } from by unfold takeOf; rw [if_pos hb]]
  have hlt := seeOf_lt hb
  have hle := hg.len
  rw [in_back] at hb
  have hb' := beq_iff_eq.1 hb
  have hset := hs hb'
  have s1 : Out L n c st = Out L n { c with m := .escape1 } { st with next := st.next + 1 } := Out.step hg (fun hf => ⟨by rw [hb']; omega, by rw [hr hf (by rw [hb']; omega), hb']; rfl⟩)
  rw [s1]
  refine Out.need hg (by simp; omega) (fun _ h => ?_) (fun _ _ h => ?_) (fun _ _ => rfl)
  ·show (if inSet kSets _ = true then _ else if (inSet kMarks _ || inSet kCtl _) = true then _ else _) = _
   rw [show inSet kSets (seeOf g { st with next := st.next + 1 }) = false from hset, ← marks_in, h]
   rfl
  ·show (if inSet kSets _ = true then _ else if (inSet kMarks _ || inSet kCtl _) = true then _ else _) = _
   rw [show inSet kSets (seeOf g { st with next := st.next + 1 }) = false from hset, ← marks_in, h]
   rfl
theorem Out.oneUpto (hg : Gd g L n) (c : Sc) (hc : c.m = .upto) (st : RS) (hn : st.next ≤ L.length) : Out L n c st = Out L n { c with m := .items } (pOne' g st).1 := by
 obtain ⟨m, o, k, z⟩ := c
 simp only at hc
 subst hc
 unfold pOne' pOne
 cases hb : inSet lBack (seeOf g st)
 ·simp only [Bool.false_eq_true, if_false]
  rw [show takeOf g lBack st = st from by unfold takeOf; rw [if_neg (by rw [hb]; simp)]]
  rw [in_back] at hb
  refine Out.needOther hg hn (fun hf hne h => ?_) (fun hf hne h => ?_) (fun _ _ => rfl)
  ·rw [notOne_in, hb] at h
   show (if (seeOf g st == 92) = true then _ else if inSet kClass (seeOf g st) = true then _ else _) = _
   rw [hb, show inSet kClass (seeOf g st) = false from by simpa using h]
   rfl
  ·rw [notOne_in, hb] at h
   show (if (seeOf g st == 92) = true then _ else if inSet kClass (seeOf g st) = true then _ else _) = _
   rw [hb, show inSet kClass (seeOf g st) = true from by simpa using h]
   rfl
 ·simp only [if_true]
  rw [show takeOf g lBack st = { st with next := st.next + 1 } from by unfold takeOf; rw [if_pos hb]]
  have hlt := seeOf_lt hb
  have hle := hg.len
  rw [in_back] at hb
  have hb' := beq_iff_eq.1 hb
  have s1 : Out L n ⟨.upto, o, k, z⟩ st = Out L n ⟨.upescape, o, k, z⟩ { st with next := st.next + 1 } := Out.step hg (fun hf => ⟨by rw [hb']; omega, by rw [hb']; rfl⟩)
  rw [s1]
  refine Out.need hg (by simp; omega) (fun _ h => ?_) (fun _ _ h => ?_) (fun _ _ => rfl)
  ·show (if (inSet kMarks _ || inSet kCtl _) = true then _ else _) = _
   rw [← marks_in, h]; rfl
  ·show (if (inSet kMarks _ || inSet kCtl _) = true then _ else _) = _
   rw [← marks_in, h]; rfl
def Items (g : RG) (c : Sc) (st : RS) : Prop := c.m = .items ∨ (c.m = .one ∧ seeOf g st ≠ 45)
theorem Items.done {c : Sc} {st : RS} (h : Items g c st) : isDone c.m = false := by rcases h with h | ⟨h, _⟩ <;> rw [h] <;> rfl
theorem Items.ready {c : Sc} {st : RS} (h : Items g c st) (hn : seeOf g st ≠ 93) : ItemReady g c st := by
 intro _ _
 obtain ⟨m, o, k, z⟩ := c
 rcases h with h | ⟨h, h45⟩
 ·simp only at h
  subst h
  show (if (seeOf g st == 93) = true then _ else _) = _
  rw [if_neg (by simpa using hn)]
 ·simp only at h
  subst h
  show (if (seeOf g st == 45) = true then _ else if (seeOf g st == 93) = true then _ else _) = _
  rw [if_neg (by simpa using h45), if_neg (by simpa using hn)]
theorem Out.item (hg : Gd g L n) (c : Sc) (st : RS) (hn : st.next ≤ L.length) (hr : ItemReady g c st) (hd : isDone c.m = false) : ∃ c', c'.o = c.o ∧ Items g c' (pItem g st) ∧ Out L n c st = Out L n c' (pItem g st) := by
 have hle := hg.len
 unfold pItem
 by_cases h : inSet lBack (seeOf g st) = true ∧ inSet lSets (seeOf g { st with next := st.next + 1 }) = true
 ·rw [if_pos h]
  have h1 := h.1
  have hlt := seeOf_lt h.2
  simp only at hlt
  rw [in_back] at h1
  have hb' := beq_iff_eq.1 h1
  refine ⟨{ c with m := .items }, rfl, Or.inl rfl, ?_⟩
  have s1 : Out L n c st = Out L n { c with m := .escape1 } { st with next := st.next + 1 } := Out.step hg (fun hf => ⟨by rw [hb']; omega, by rw [hr hf (by rw [hb']; omega), hb']; rfl⟩)
  rw [s1]
  refine Out.step hg (st := { st with next := st.next + 1 }) (fun _ => ⟨?_, ?_⟩)
  ·intro e; have := h.2; rw [e, inSet_end] at this; exact absurd this (by simp)
  ·show (if inSet kSets _ = true then _ else _) = _
   rw [show inSet kSets (seeOf g { st with next := st.next + 1 }) = true from h.2]; rfl
 ·rw [if_neg h]
  have s1 := Out.oneFirst hg c st hn hr hd (fun e => by
   cases hs : inSet lSets (seeOf g { st with next := st.next + 1 })
   ·rfl
   ·exact absurd ⟨by rw [e]; rfl, hs⟩ h)
  have hnx := pOne'_next g st (by omega)
  unfold pUpto
  cases hda : inSet lDash (seeOf g (pOne' g st).1)
  ·rw [if_neg (by simp)]
   rw [in_dash] at hda
   exact ⟨{ c with m := .one }, rfl, Or.inr ⟨rfl, by simpa using hda⟩, s1⟩
  ·rw [if_pos rfl]
   have hlt := seeOf_lt hda
   rw [in_dash] at hda
   have hda' := beq_iff_eq.1 hda
   refine ⟨{ c with m := .items }, rfl, ?_, ?_⟩
   ·split <;> exact Or.inl rfl
   ·rw [s1]
    have s2 : Out L n { c with m := .one } (pOne' g st).1 = Out L n { c with m := .upto } { (pOne' g st).1 with next := (pOne' g st).1.next + 1 } := Out.step hg (fun _ => ⟨by omega, by rw [hda']; rfl⟩)
    have s3 := Out.oneUpto hg { c with m := .upto } rfl { (pOne' g st).1 with next := (pOne' g st).1.next + 1 } (by simp; omega)
    rw [s2, s3]
    split
    ·rw [Out.note (by omega)]
    ·rfl
theorem Out.items (hg : Gd g L n) : ∀ (m : Nat) (c : Sc) (st : RS), st.next ≤ L.length → L.length - st.next < m → Items g c st → ∃ c', c'.o = c.o ∧ Items g c' (pItems g m st) ∧ (seeOf g (pItems g m st) = -1 ∨ seeOf g (pItems g m st) = 93) ∧ (pItems g m st).next ≤ L.length ∧ Out L n c st = Out L n c' (pItems g m st)
 | 0, c, st, h1, h2, h3 => by omega
 | m + 1, c, st, h1, h2, h3 => by
  have hle := hg.len
  unfold pItems
  by_cases h : seeOf g st = -1 ∨ inSet lSquare (seeOf g st) = true
  ·rw [if_pos h]
   refine ⟨c, rfl, h3, ?_, h1, rfl⟩
   rcases h with h | h
   ·exact Or.inl h
   ·rw [in_square] at h; exact Or.inr (beq_iff_eq.1 h)
  ·rw [if_neg h]
   rw [not_or, in_square] at h
   have hnx := pItem_next g st (by omega)
   have hlt := hg.seen h.1
   have h4 := hnx.2.2 (by omega)
   obtain ⟨c1, q1, q2, q3⟩ := Out.item hg c st h1 (h3.ready (by simpa using h.2)) h3.done
   obtain ⟨c2, p1, p2, p3, p4, p5⟩ := Out.items hg m c1 (pItem g st) (by omega) (by omega) q2
   exact ⟨c2, by rw [p1, q1], p2, p3, p4, by rw [q3, p5]⟩
theorem Out.class_ (hg : Gd g L n) (o k : Int) (z : Bool) (st : RS) (hn : st.next ≤ L.length) : ∃ k' z', Out L n ⟨.class_, o, k, z⟩ st = Out L n ⟨.times, o, k', z'⟩ (pClass g st) := by
 have hle := hg.len
 have key : ∀ (c : Sc) (s : RS), s.next ≤ L.length → c.o = o → ItemReady g c s → isDone c.m = false → ∃ k' z', Out L n c s = Out L n ⟨.times, o, k', z'⟩ (needSt g lSquare (pItems g (g.rs.length + 1) (pItem g s))) := by
  intro c s hs ho hr hd
  have hnx := pItem_next g s (by omega)
  obtain ⟨c1, q1, q2, q3⟩ := Out.item hg c s hs hr hd
  obtain ⟨c2, p1, p2, p3, p4, p5⟩ := Out.items hg (g.rs.length + 1) c1 (pItem g s) (by omega) (by omega) q2
  refine ⟨c2.n, c2.z, ?_⟩
  rw [q3, p5]
  refine Out.need hg p4 (fun _ h => ?_) (fun _ h1 h2 => ?_) (fun _ _ => by rw [p2.done]; rfl)
  ·rw [in_square] at h
   rw [beq_iff_eq.1 h]
   obtain ⟨m2, o2, k2, z2⟩ := c2
   have ho2 : o2 = o := by have := p1.trans (q1.trans ho); exact this
   subst ho2
   rcases p2 with h' | ⟨h', _⟩ <;> (simp only at h'; subst h'; rfl)
  ·rw [in_square] at h2
   rcases p3 with h' | h'
   ·exact absurd h' h1
   ·rw [h'] at h2; exact absurd h2 (by decide)
 unfold pClass takeOf
 cases hc : inSet lCaret (seeOf g st)
 ·rw [if_neg (by simp)]
  rw [in_caret] at hc
  refine key ⟨.class_, o, k, z⟩ st hn rfl (fun _ _ => ?_) rfl
  show (if (seeOf g st == 94) = true then _ else if (seeOf g st == 93) = true then _ else _) = _
  rw [hc]
  cases h93 : (seeOf g st == 93)
  ·rfl
  ·rw [beq_iff_eq.1 h93]; rfl
 ·rw [if_pos rfl]
  have hlt := seeOf_lt hc
  rw [in_caret] at hc
  have hc' := beq_iff_eq.1 hc
  obtain ⟨k', z', q⟩ := key ⟨.first, o, k, z⟩ { st with next := st.next + 1 } (by simp; omega) rfl (fun _ _ => by
   show (if (seeOf g { st with next := st.next + 1 } == 93) = true then _ else _) = _
   cases h93 : (seeOf g { st with next := st.next + 1 } == 93)
   ·rfl
   ·rw [beq_iff_eq.1 h93]; rfl) rfl
  refine ⟨k', z', ?_⟩
  rw [← q]
  exact Out.step hg (fun _ => ⟨by omega, by rw [hc']; rfl⟩)
end Go.Proofs.YtfollffpibmgcaaGreatDoor
namespace Go.Proofs.YtfollffpibmgcaaGreatDoor
set_option linter.unusedVariables false
set_option maxRecDepth 100000
variable {g : RG} {L : List (Nat × Int)} {n : Int}
theorem small_letters (r : Int) : inSet lLetters r = smallOf r := by
 cases h : smallOf r
 ·cases h2 : inSet lLetters r
  ·rfl
  ·have := letters_range h2
   unfold smallOf at h
   exact absurd (of_decide_eq_false h) (fun h => h this)
 ·have hr : 97 ≤ r ∧ r ≤ 122 := by unfold smallOf at h; exact of_decide_eq_true h
  have : r = 97 ∨ r = 98 ∨ r = 99 ∨ r = 100 ∨ r = 101 ∨ r = 102 ∨ r = 103 ∨ r = 104 ∨ r = 105 ∨ r = 106 ∨ r = 107 ∨ r = 108 ∨ r = 109 ∨ r = 110 ∨ r = 111 ∨ r = 112 ∨ r = 113 ∨ r = 114 ∨ r = 115 ∨ r = 116 ∨ r = 117 ∨ r = 118 ∨ r = 119 ∨ r = 120 ∨ r = 121 ∨ r = 122 := by omega
  rcases this with h | h | h | h | h | h | h | h | h | h | h | h | h | h | h | h | h | h | h | h | h | h | h | h | h | h <;> subst h <;> rfl
theorem need_told {l : List UInt8} {st : RS} {p : Int} (h : st.flt.form = some p) : (needSt g l st).flt.form = some p := by
 unfold needSt
 split
 ·exact h
 ·exact refuse_told h
theorem pNamed_told (first : Nat) (st : RS) : (pNamed g first st).flt.form = st.flt.form := by
 unfold pNamed
 split
 ·exact note_told (by omega)
 ·rfl
theorem pLetters_same' (first : Nat) : ∀ (m : Nat) (st : RS), (pLetters g first m st).flt = st.flt
 | 0, _ => rfl
 | m + 1, st => by
  unfold pLetters
  split
  ·exact pLetters_same' first m { st with next := st.next + 1 }
  ·rfl
theorem name_step (o k : Int) (z : Bool) (r : Int) : scStep ⟨.name, o, k, z⟩ r = if smallOf r && decide (k < 8) then some ⟨.name, o, k + 1, z⟩ else if r == 62 && decide (0 < k) then some ⟨.begin, o, k, z⟩ else none := rfl
theorem Out.letters (hg : Gd g L n) (o : Int) (z : Bool) (first : Nat) : ∀ (m : Nat) (s : RS), first + 1 ≤ s.next → s.next ≤ first + 8 → s.next ≤ L.length → L.length - s.next < m →
  Out L n ⟨.name, o, (s.next : Int) - first, z⟩ s = Out L n ⟨.name, o, ((pLetters g first m s).next : Int) - first, z⟩ (pLetters g first m s) ∧ ¬ ((pLetters g first m s).next < first + 8 ∧ inSet lLetters (seeOf g (pLetters g first m s)) = true) ∧ first + 1 ≤ (pLetters g first m s).next ∧ (pLetters g first m s).next ≤ L.length
 | 0, s, _, _, _, h => by omega
 | m + 1, s, h1, h2, h3, h4 => by
  unfold pLetters
  by_cases hc : s.next < first + 8 ∧ inSet lLetters (seeOf g s) = true
  ·rw [if_pos hc]
   have hlt := seeOf_lt hc.2
   have hle := hg.len
   have ih := Out.letters hg o z first m { s with next := s.next + 1 } (by simp; omega) (by simp; omega) (by simp; omega) (by simp; omega)
   refine ⟨?_, ih.2⟩
   rw [← ih.1]
   have hr := letters_range hc.2
   refine Out.step hg (fun _ => ⟨by omega, ?_⟩)
   rw [name_step, ← small_letters, hc.2, decide_eq_true (by omega)]
   simp only [Bool.and_self, if_true]
   congr 2
   simp; omega
  ·rw [if_neg hc]
   exact ⟨rfl, hc, h1, h3⟩
theorem Out.name (hg : Gd g L n) (o : Int) (z : Bool) (st : RS) (hn : st.next ≤ L.length) : ∃ k' z', Out L n ⟨.name, o, 0, z⟩ st = Out L n ⟨.begin, o, k', z'⟩ (pName g st) := by
 have hle := hg.len
 have s1 : Out L n ⟨.name, o, 0, z⟩ st = Out L n ⟨.name, o, 1, z⟩ (needSt g lLetters st) := by
  refine Out.need hg hn (fun _ h => ?_) (fun _ _ h => ?_) (fun _ _ => rfl)
  ·rw [name_step, ← small_letters, h]; rfl
  ·rw [name_step, ← small_letters, h]; simp
 rw [s1]
 unfold pName
 cases hf : (needSt g lLetters st).flt.form with
 | some p =>
  refine ⟨0, false, ?_⟩
  rw [Out.told hf, Out.told (need_told (by rw [pNamed_told, pLetters_same']; exact hf))]
 | none =>
  obtain ⟨a1, a2, a3⟩ := needSt_form hf
  have hlt := seeOf_lt a1
  rw [a3]
  obtain ⟨q1, q2, q3, q4⟩ := Out.letters hg o z st.next (g.rs.length + 9) { st with next := st.next + 1 } (by simp) (by simp) (by simp; omega) (by simp; omega)
  have e1 : (((({ st with next := st.next + 1 } : RS).next : Nat) : Int) - (st.next : Int)) = 1 := by simp; omega
  rw [e1] at q1
  rw [q1]
  generalize pLetters g st.next (g.rs.length + 9) { st with next := st.next + 1 } = s2 at *
  refine ⟨(s2.next : Int) - st.next, z, ?_⟩
  have hsee : seeOf g (pNamed g st.next s2) = seeOf g s2 := by unfold seeOf; rw [pNamed_next]
  rw [show Out L n ⟨.name, o, (s2.next : Int) - st.next, z⟩ s2 = Out L n ⟨.name, o, (s2.next : Int) - st.next, z⟩ (pNamed g st.next s2) from (Out.same (pNamed_told _ _) (pNamed_next g _ _)).symm]
  refine Out.need hg (by rw [pNamed_next]; exact q4) (fun _ h => ?_) (fun _ _ h => ?_) (fun _ _ => rfl)
  ·rw [in_greater] at h
   rw [beq_iff_eq.1 h, name_step, small62, decide_eq_true (show 0 < (s2.next : Int) - st.next by omega)]
   rfl
  ·rw [hsee] at h ⊢
   rw [in_greater] at h
   rw [name_step, h, ← small_letters]
   cases hl : inSet lLetters (seeOf g s2)
   ·simp
   ·rw [decide_eq_false (by intro h'; exact q2 ⟨by omega, hl⟩)]
    simp
theorem Out.head (hg : Gd g L n) (o k : Int) (z : Bool) (st : RS) (hn : st.next ≤ L.length) : ∃ c', c'.o = o ∧ Ready g c' (pHead g st) ∧ Out L n ⟨.open_, o, k, z⟩ st = Out L n c' (pHead g st) := by
 have hle := hg.len
 unfold pHead
 cases hq : inSet lQuery (seeOf g st)
 ·rw [if_pos rfl]
  rw [in_query] at hq
  refine ⟨⟨.open_, o, k, z⟩, rfl, fun _ _ => ?_, (Out.same rfl rfl).symm⟩
  show (if (seeOf g { st with groups := st.groups + 1 } == 63) = true then _ else _) = _
  rw [show seeOf g { st with groups := st.groups + 1 } = seeOf g st from rfl, hq]; rfl
 ·rw [if_neg (by simp)]
  have hlt := seeOf_lt hq
  rw [in_query] at hq
  have hq' := beq_iff_eq.1 hq
  have s1 : Out L n ⟨.open_, o, k, z⟩ st = Out L n ⟨.query, o, k, z⟩ { st with next := st.next + 1 } := Out.step hg (fun _ => ⟨by omega, by rw [hq']; rfl⟩)
  rw [s1]
  cases hl : inSet lLess (seeOf g { st with next := st.next + 1 })
  ·rw [if_neg (by simp)]
   rw [in_less] at hl
   unfold takeOf
   cases hi : inSet lI (seeOf g { st with next := st.next + 1 })
   ·rw [if_neg (by simp)]
    rw [in_i] at hi
    refine ⟨⟨.begin, o, k, z⟩, rfl, fun _ _ => rfl, ?_⟩
    refine Out.need hg (by simp; omega) (fun _ h => ?_) (fun _ _ h => ?_) (fun _ _ => rfl)
    ·rw [in_colon] at h; rw [beq_iff_eq.1 h]; rfl
    ·rw [in_colon] at h
     show (if (seeOf g { st with next := st.next + 1 } == 58) = true then _ else if (seeOf g { st with next := st.next + 1 } == 105) = true then _ else if (seeOf g { st with next := st.next + 1 } == 60) = true then _ else _) = _
     rw [h, hi, hl]; rfl
   ·rw [if_pos rfl]
    have hlt2 := seeOf_lt hi
    simp only at hlt2
    rw [in_i] at hi
    have hi' := beq_iff_eq.1 hi
    have s2 : Out L n ⟨.query, o, k, z⟩ { st with next := st.next + 1 } = Out L n ⟨.colon, o, k, z⟩ { st with next := st.next + 1 + 1 } := Out.step hg (st := { st with next := st.next + 1 }) (fun _ => ⟨by omega, by rw [hi']; rfl⟩)
    rw [s2]
    refine ⟨⟨.begin, o, k, z⟩, rfl, fun _ _ => rfl, ?_⟩
    refine Out.need hg (by simp; omega) (fun _ h => ?_) (fun _ _ h => ?_) (fun _ _ => rfl)
    ·rw [in_colon] at h; rw [beq_iff_eq.1 h]; rfl
    ·rw [in_colon] at h
     show (if (seeOf g { st with next := st.next + 1 + 1 } == 58) = true then _ else _) = _
     rw [h]; rfl
  ·rw [if_pos rfl]
   have hlt2 := seeOf_lt hl
   simp only at hlt2
   rw [in_less] at hl
   have hl' := beq_iff_eq.1 hl
   have s2 : Out L n ⟨.query, o, k, z⟩ { st with next := st.next + 1 } = Out L n ⟨.name, o, 0, z⟩ { st with next := st.next + 2 } := Out.step hg (st := { st with next := st.next + 1 }) (fun _ => ⟨by omega, by rw [hl']; rfl⟩)
   obtain ⟨k', z', q⟩ := Out.name hg o z { st with next := st.next + 2, groups := st.groups + 1 } (by simp; omega)
   refine ⟨⟨.begin, o, k', z'⟩, rfl, fun _ _ => rfl, ?_⟩
   rw [s2, ← q]
   exact (Out.same rfl rfl).symm
def AltOut (g : RG) (L : List (Nat × Int)) (n : Int) (alt : RS → RS × PT) (d : Nat) : Prop := ∀ (c : Sc) (st : RS), st.next ≤ L.length → L.length - st.next < d → Ready g c st → 0 ≤ c.o → (c.o = 0 → isDone c.m = true) →
 ∃ c', c'.o = c.o ∧ Ready g c' (alt st).1 ∧ (c'.o = 0 → isDone c'.m = true) ∧ Out L n c st = Out L n c' (alt st).1 ∧ (seeOf g (alt st).1 = -1 ∨ seeOf g (alt st).1 = 41)
theorem Out.bracket (hg : Gd g L n) {alt : RS → RS × PT} {d : Nat} (ha : AltOut g L n alt d) (hfw : AltFwd g alt) (o k : Int) (z : Bool) (ho : 0 ≤ o) (st : RS) (hn : st.next ≤ L.length) (hd : L.length - st.next < d) : ∃ k' z', Out L n ⟨.open_, o + 1, k, z⟩ st = Out L n ⟨.times, o, k', z'⟩ (pBracket g alt st).1 := by
 have hle := hg.len
 obtain ⟨c1, q1, q2, q3⟩ := Out.head hg (o + 1) k z st hn
 have hnx := pHead_next g st (by omega)
 obtain ⟨c2, p1, p2, p3, p4, p5⟩ := ha c1 (pHead g st) (by omega) (by omega) q2 (by omega) (by omega)
 have hnx2 := hfw (pHead g st) (by omega)
 refine ⟨c2.n, c2.z, ?_⟩
 rw [q3, p4]
 unfold pBracket
 refine Out.need hg (by omega) (fun hf h => ?_) (fun _ h1 h2 => ?_) (fun _ _ => ?_)
 ·rw [in_round] at h
  have h' := beq_iff_eq.1 h
  have := p2 hf (by omega)
  rw [h'] at this ⊢
  rw [this]
  obtain ⟨m2, o2, k2, z2⟩ := c2
  have ho2 : o2 = o + 1 := by have := p1.trans q1; exact this
  subst ho2
  show (if 0 ≤ o + 1 - 1 then _ else _) = _
  rw [if_pos (by omega), show o + 1 - 1 = o from by omega]
 ·rw [in_round] at h2
  rcases p5 with h' | h'
  ·exact absurd h' h1
  ·rw [h'] at h2; exact absurd h2 (by decide)
 ·have : c2.o = o + 1 := by rw [p1, q1]
  rw [this, show ((o + 1 == 0) = false) from by simp; omega]
  simp
theorem Out.atom (hg : Gd g L n) {alt : RS → RS × PT} {d : Nat} (ha : AltOut g L n alt d) (hfw : AltFwd g alt) (c : Sc) (ho : 0 ≤ c.o) (st : RS) (hn : st.next ≤ L.length) (hd : L.length - st.next ≤ d) (hr : Ready g c st) (h1 : seeOf g st ≠ -1) (h2 : inSet lBarRound (seeOf g st) = false) :
  ∃ k' z', Out L n c st = Out L n ⟨.times, c.o, k', z'⟩ (pAtom g alt st).1 := by
 have hle := hg.len
 have hlt := hg.seen h1
 obtain ⟨m, o, k, z⟩ := c
 have h2' : (seeOf g st == 124) = false ∧ (seeOf g st == 41) = false := by
  rw [show inSet lBarRound (seeOf g st) = (inSet lBar (seeOf g st) || inSet lRound (seeOf g st)) from inSet_app lBar lRound _, in_bar, in_round, Bool.or_eq_false_iff] at h2
  exact h2
 have stp : ∀ r c', seeOf g st = r → scAtom ⟨m, o, k, z⟩ r = some c' → Out L n ⟨m, o, k, z⟩ st = Out L n c' { st with next := st.next + 1 } := by
  intro r c' hr' hs
  refine Out.step hg (fun hf => ⟨h1, ?_⟩)
  rw [hr hf h1, hr']; exact hs
 unfold pAtom
 rw [in_oround, in_osquare, in_back]
 cases g1 : (seeOf g st == 40)
 ·cases g2 : (seeOf g st == 91)
  ·cases g3 : (seeOf g st == 92)
   ·simp only [Bool.false_eq_true, if_false]
    cases g4 : inSet lSingles (seeOf g st)
    ·rw [if_neg (by simp)]
     refine ⟨k, z, ?_⟩
     have hsp : inSet kSpecial (seeOf g st) = inSet lNotPlain (seeOf g st) := rfl
     have hat : ∀ r, r = seeOf g st → scAtom ⟨m, o, k, z⟩ r = if inSet kSpecial r then none else some ⟨.times, o, k, z⟩ := by
      intro r hr'
      rw [show lSingles = [46] ++ ([94] ++ [36]) from rfl, inSet_app, inSet_app, one_in, one_in, one_in, Bool.or_eq_false_iff, Bool.or_eq_false_iff] at g4
      unfold scAtom
      rw [hr', h2'.1, h2'.2, g1, g2, g3, show (seeOf g st == 46) = false from g4.1, show (seeOf g st == 94) = false from g4.2.1, show (seeOf g st == 36) = false from g4.2.2]
      rfl
     refine Out.needOther hg hn (fun hf hne h => ?_) (fun hf hne h => ?_) (fun hf he => absurd he h1)
     ·rw [hr hf hne, hat _ rfl, hsp, h]; rfl
     ·rw [hr hf hne, hat _ rfl, hsp, h]; rfl
    ·rw [if_pos rfl]
     refine ⟨k, z, ?_⟩
     refine stp _ _ rfl ?_
     rw [show lSingles = [46] ++ ([94] ++ [36]) from rfl, inSet_app, inSet_app, one_in, one_in, one_in, Bool.or_eq_true, Bool.or_eq_true] at g4
     rcases g4 with h | h | h <;> (rw [beq_iff_eq.1 h]; rfl)
   ·simp only [Bool.false_eq_true, if_false, if_true]
    have g3' := beq_iff_eq.1 g3
    refine ⟨k, z, ?_⟩
    rw [stp 92 ⟨.escape, o, k, z⟩ g3' rfl]
    refine Out.need hg (by simp; omega) (fun _ h => ?_) (fun _ _ h => ?_) (fun _ _ => rfl)
    ·show (if (inSet kMarks _ || inSet kCtlAll _) = true then _ else _) = _
     rw [← escape_in, h]; rfl
    ·show (if (inSet kMarks _ || inSet kCtlAll _) = true then _ else _) = _
     rw [← escape_in, h]; rfl
  ·simp only [Bool.false_eq_true, if_false, if_true]
   have g2' := beq_iff_eq.1 g2
   obtain ⟨k', z', q⟩ := Out.class_ hg o k z { st with next := st.next + 1 } (by simp; omega)
   exact ⟨k', z', by rw [stp 91 ⟨.class_, o, k, z⟩ g2' rfl, q]⟩
 ·simp only [if_true]
  have g1' := beq_iff_eq.1 g1
  obtain ⟨k', z', q⟩ := Out.bracket hg ha hfw o k z ho { st with next := st.next + 1 } (by simp; omega) (by simp; omega)
  exact ⟨k', z', by rw [stp 40 ⟨.open_, o + 1, k, z⟩ g1' rfl, q]⟩
theorem Out.seqs (hg : Gd g L n) {alt : RS → RS × PT} {d : Nat} (ha : AltOut g L n alt d) (hfw : AltFwd g alt) : ∀ (m : Nat) (c : Sc) (st : RS) (acc : List PT), st.next ≤ L.length → L.length - st.next < m → L.length - st.next ≤ d → Ready g c st → 0 ≤ c.o → (c.o = 0 → isDone c.m = true) →
  ∃ c', c'.o = c.o ∧ Ready g c' (pSeqs g alt m st acc).1 ∧ (c'.o = 0 → isDone c'.m = true) ∧ Out L n c st = Out L n c' (pSeqs g alt m st acc).1 ∧ (seeOf g (pSeqs g alt m st acc).1 = -1 ∨ inSet lBarRound (seeOf g (pSeqs g alt m st acc).1) = true)
 | 0, _, _, _, _, h, _, _, _, _ => by omega
 | m + 1, c, st, acc, h1, h2, h3, h4, h5, h6 => by
  have hle := hg.len
  unfold pSeqs
  by_cases he : seeOf g st = -1 ∨ inSet lBarRound (seeOf g st) = true
  ·rw [if_pos he]
   exact ⟨c, rfl, h4, h6, rfl, he⟩
  ·rw [if_neg he]
   rw [not_or] at he
   have hlt := hg.seen he.1
   obtain ⟨k1, z1, q1⟩ := Out.atom hg ha hfw c h5 st h1 h3 h4 he.1 (by simpa using he.2)
   have hn1 := pAtom_next g alt hfw st (by omega)
   have hn2 := hn1.2.2 (by omega)
   obtain ⟨c2, p1, p2, p3, p4⟩ := Out.repeated hg c.o k1 z1 (pAtom g alt st).2 (pAtom g alt st).1 (by omega)
   have hn3 := pRepeated_next g (pAtom g alt st).2 (pAtom g alt st).1 (by omega)
   obtain ⟨c3, r1, r2, r3, r4, r5⟩ := Out.seqs hg ha hfw m c2 (pRepeated g (pAtom g alt st).2 (pAtom g alt st).1).1 (acc ++ [(pRepeated g (pAtom g alt st).2 (pAtom g alt st).1).2]) (by omega) (by omega) (by omega) p3 (by omega) (fun _ => p2)
   exact ⟨c3, by rw [r1, p1], r2, r3, by rw [q1, p4, r4], r5⟩
theorem Out.alts (hg : Gd g L n) {alt : RS → RS × PT} {d : Nat} (ha : AltOut g L n alt d) (hfw : AltFwd g alt) : ∀ (m : Nat) (c : Sc) (st : RS) (acc : List PT), st.next ≤ L.length → L.length - st.next < m → L.length - st.next ≤ d → Ready g c st → 0 ≤ c.o → (c.o = 0 → isDone c.m = true) → (seeOf g st = -1 ∨ inSet lBarRound (seeOf g st) = true) →
  ∃ c', c'.o = c.o ∧ Ready g c' (pAlts g alt m st acc).1 ∧ (c'.o = 0 → isDone c'.m = true) ∧ Out L n c st = Out L n c' (pAlts g alt m st acc).1 ∧ (seeOf g (pAlts g alt m st acc).1 = -1 ∨ seeOf g (pAlts g alt m st acc).1 = 41)
 | 0, _, _, _, _, h, _, _, _, _, _ => by omega
 | m + 1, c, st, acc, h1, h2, h3, h4, h5, h6, h7 => by
  have hle := hg.len
  unfold pAlts
  cases hb : inSet lBar (seeOf g st)
  ·rw [if_neg (by simp)]
   refine ⟨c, rfl, h4, h6, rfl, ?_⟩
   rcases h7 with h | h
   ·exact Or.inl h
   ·rw [show inSet lBarRound (seeOf g st) = (inSet lBar (seeOf g st) || inSet lRound (seeOf g st)) from inSet_app lBar lRound _, hb, in_round] at h
    exact Or.inr (by simpa using h)
  ·rw [if_pos rfl]
   have hlt := seeOf_lt hb
   rw [in_bar] at hb
   have hb' := beq_iff_eq.1 hb
   have s1 : Out L n c st = Out L n { c with m := .begin } { st with next := st.next + 1 } := Out.step hg (fun hf => ⟨by omega, by rw [h4 hf (by omega), hb']; rfl⟩)
   obtain ⟨c2, p1, p2, p3, p4, p5⟩ := Out.seqs hg ha hfw (g.rs.length + 1) { c with m := .begin } { st with next := st.next + 1 } [] (by simp; omega) (by simp; omega) (by simp; omega) (fun _ _ => rfl) h5 (fun _ => rfl)
   have hn1 := pSeqs_next g alt hfw (g.rs.length + 1) { st with next := st.next + 1 } [] (by simp; omega)
   simp only at hn1
   obtain ⟨c3, r1, r2, r3, r4, r5⟩ := Out.alts hg ha hfw m c2 (pSeq g alt { st with next := st.next + 1 }).1 (acc ++ [(pSeq g alt { st with next := st.next + 1 }).2]) (by show (pSeqs g alt (g.rs.length + 1) { st with next := st.next + 1 } []).1.next ≤ _; omega) (by show L.length - (pSeqs g alt (g.rs.length + 1) { st with next := st.next + 1 } []).1.next < m; omega) (by show L.length - (pSeqs g alt (g.rs.length + 1) { st with next := st.next + 1 } []).1.next ≤ d; omega) p2 (by rw [p1]; exact h5) p3 p5
   exact ⟨c3, by rw [r1, p1], r2, r3, by rw [s1, p4, ← r4]; rfl, r5⟩
theorem Out.alt (hg : Gd g L n) : ∀ k, AltOut g L n (pAlt g k) k
 | 0 => fun _ _ _ h _ _ _ => by omega
 | k + 1 => fun c st h1 h2 h3 h4 h5 => by
  have hle := hg.len
  have hfw := pAlt_fwd g k
  obtain ⟨c2, p1, p2, p3, p4, p5⟩ := Out.seqs hg (Out.alt hg k) hfw (g.rs.length + 1) c st [] h1 (by omega) (by omega) h3 h4 h5
  have hn1 := pSeqs_next g (pAlt g k) hfw (g.rs.length + 1) st [] (by omega)
  obtain ⟨c3, r1, r2, r3, r4, r5⟩ := Out.alts hg (Out.alt hg k) hfw (g.rs.length + 1) c2 (pSeq g (pAlt g k) st).1 [(pSeq g (pAlt g k) st).2] (by show (pSeqs g (pAlt g k) (g.rs.length + 1) st []).1.next ≤ _; omega) (by omega) (by show L.length - (pSeqs g (pAlt g k) (g.rs.length + 1) st []).1.next ≤ k; omega) p2 (by rw [p1]; exact h4) p3 p5
  exact ⟨c3, by rw [r1, p1], r2, r3, p4.trans r4, r5⟩
theorem form_alike (hg : Gd g L n) (st : RS) (h0 : st.next = 0) (hf : st.flt.form = none) : (pWhole g st).1.flt.form = formO n sc0 L := by
 have hle := hg.len
 obtain ⟨c2, p1, p2, p3, p4, p5⟩ := Out.alt hg (g.rs.length + 1) sc0 st (by omega) (by omega) (fun _ _ => rfl) (by decide) (fun _ => rfl)
 have hO : Out L n sc0 st = formO n sc0 L := by rw [Out.not hf, h0]; rfl
 have hn := (pAlt_fwd g (g.rs.length + 1) st (by omega)).2
 have ho : c2.o = 0 := p1
 rw [hO] at p4
 unfold pWhole
 by_cases he : seeOf g (pAlt g (g.rs.length + 1) st).1 = -1
 ·rw [if_pos he]
  cases hff : (pAlt g (g.rs.length + 1) st).1.flt.form with
  | some p => rw [Out.told hff] at p4; exact p4.symm
  | none =>
   rw [Out.not hff, (hg.end_ (by omega) he).2.1, show formO n c2 [] = if isDone c2.m && c2.o == 0 then none else some n from rfl, p3 ho, ho] at p4
   rw [p4]; rfl
 ·rw [if_neg he]
  have h41 : seeOf g (pAlt g (g.rs.length + 1) st).1 = 41 := p5.resolve_left he
  have s1 : Out L n c2 (pAlt g (g.rs.length + 1) st).1 = Out L n c2 (refuseOf g (pAlt g (g.rs.length + 1) st).1) := by
   refine Out.stop hg (by omega) (fun hff hne => ?_) (fun _ h => absurd h he)
   rw [p2 hff hne, h41]
   obtain ⟨m2, o2, k2, z2⟩ := c2
   have ho2 : o2 = 0 := ho
   subst ho2
   rfl
  cases hff : (refuseOf g (pAlt g (g.rs.length + 1) st).1).flt.form with
  | some p => rw [s1, Out.told hff] at p4; exact p4.symm
  | none => exact absurd hff (refuse_form g _)
end Go.Proofs.YtfollffpibmgcaaGreatDoor
