/- The form of a pattern, told by the program's reader (mirror: Pm) and by the document's scan (Sc), is told alike: 'Out c st' is what the scan tells from where the reader stands, or what the reader has told already; each step of the reader leaves it as it is. Here: the words, and the small steps. -/
import Derived.Test.YtlimhofdonkljaaFm
import Derived.Test.YtlimhofdonkljaaPm
import Derived.Test.YtlimhofdonkljaaRd10
namespace Go.Proofs.Ytlimhofdonkljaa
set_option linter.unusedVariables false

/-- the reader's runes and places are those of a list; the place behind them is n -/
structure Gd (g : RG) (L : List (Nat × Int)) (n : Int) : Prop where
  rs : g.rs = L.map (·.2)
  ps : ∀ i, (h : i < L.length) → g.ps.getD i 0 = L[i].1
  pe : g.ps.getD L.length 0 = n
  nn : ∀ p ∈ L, 0 ≤ p.2

theorem Gd.len {g : RG} {L : List (Nat × Int)} {n : Int} (h : Gd g L n) : g.rs.length = L.length := by rw [h.rs]; simp

/-- the place of what can't stand, as the scan tells it; none: it is a pattern -/
def formO (n : Int) : Sc → List (Nat × Int) → Option Int
  | c, [] => if isDone c.m && c.o == 0 then none else some n
  | c, p :: l => match scStep c p.2 with
    | some c' => formO n c' l
    | none => some p.1
theorem formO_some {n : Int} {c c' : Sc} {p : Nat × Int} {l : List (Nat × Int)} (h : scStep c p.2 = some c') : formO n c (p :: l) = formO n c' l := by
  rw [show formO n c (p :: l) = match scStep c p.2 with | some c' => formO n c' l | none => some (p.1 : Int) from rfl, h]
theorem formO_none {n : Int} {c : Sc} {p : Nat × Int} {l : List (Nat × Int)} (h : scStep c p.2 = none) : formO n c (p :: l) = some (p.1 : Int) := by
  rw [show formO n c (p :: l) = match scStep c p.2 with | some c' => formO n c' l | none => some (p.1 : Int) from rfl, h]
theorem formOf_eq (n : Int) : ∀ (L : List (Nat × Int)) (c : Sc), formOf n c L = (formO n c L).getD (-1)
  | [], c => by
    unfold formOf formO
    split <;> rfl
  | p :: l, c => by
    cases h : scStep c p.2 with
    | some c' => rw [formOf_some h, formO_some h]; exact formOf_eq n l c'
    | none => rw [formOf_none h, formO_none h]; rfl
theorem formO_pos {n : Int} (hn : 0 ≤ n) : ∀ (L : List (Nat × Int)) (c : Sc) (q : Int), formO n c L = some q → 0 ≤ q
  | [], c, q, h => by
    unfold formO at h
    split at h
    · simp at h
    · simp at h; omega
  | p :: l, c, q, h => by
    cases hs : scStep c p.2 with
    | some c' => rw [formO_some hs] at h; exact formO_pos hn l c' q h
    | none => rw [formO_none hs] at h; simp at h; omega

def Out (L : List (Nat × Int)) (n : Int) (c : Sc) (st : RS) : Option Int := match st.flt.form with
  | some p => some p
  | none => formO n c (L.drop st.next)
theorem Out.told {L : List (Nat × Int)} {n : Int} {c : Sc} {st : RS} {p : Int} (h : st.flt.form = some p) : Out L n c st = some p := by unfold Out; rw [h]
theorem Out.not {L : List (Nat × Int)} {n : Int} {c : Sc} {st : RS} (h : st.flt.form = none) : Out L n c st = formO n c (L.drop st.next) := by unfold Out; rw [h]
theorem Out.any {L : List (Nat × Int)} {n : Int} {c c' : Sc} {st : RS} (h : st.flt.form ≠ none) : Out L n c st = Out L n c' st := by
  cases hf : st.flt.form with
  | none => exact absurd hf h
  | some p => rw [Out.told hf, Out.told hf]

theorem refuse_told {g : RG} {st : RS} {p : Int} (h : st.flt.form = some p) : (refuseOf g st).flt.form = some p := by
  simp [refuseOf, RS.note, Flt.note, Flt.get, h]
theorem refuse_new {g : RG} {st : RS} (h : st.flt.form = none) : (refuseOf g st).flt.form = some (placeOf g st) := by
  simp [refuseOf, RS.note, Flt.note, Flt.get, h, Flt.put]
theorem note_told {st : RS} {e p : Int} (he : e ≠ 3) : (st.note e p).flt.form = st.flt.form := by
  unfold RS.note Flt.note
  simp only
  split
  · rfl
  · unfold Flt.put
    repeat' split
    all_goals first | rfl | (exfalso; omega)

/-- a rune stands there -/
theorem Gd.at {g : RG} {L : List (Nat × Int)} {n : Int} (h : Gd g L n) {st : RS} (hlt : st.next < L.length) : L.drop st.next = (L[st.next].1, seeOf g st) :: L.drop (st.next + 1) ∧ placeOf g st = L[st.next].1 ∧ 0 ≤ seeOf g st := by
  have e : seeOf g st = L[st.next].2 := by
    unfold seeOf
    rw [h.rs]
    simp [List.getD, List.getElem?_eq_getElem hlt]
  refine ⟨?_, h.ps _ hlt, ?_⟩
  · rw [e]; exact List.drop_eq_getElem_cons hlt
  · rw [e]; exact h.nn _ (List.getElem_mem hlt)
theorem Gd.seen {g : RG} {L : List (Nat × Int)} {n : Int} (h : Gd g L n) {st : RS} (hs : seeOf g st ≠ -1) : st.next < L.length := by
  have := lt_of_see hs
  have := h.len
  omega
theorem Gd.end_ {g : RG} {L : List (Nat × Int)} {n : Int} (h : Gd g L n) {st : RS} (hn : st.next ≤ L.length) (hs : seeOf g st = -1) : st.next = L.length ∧ L.drop st.next = [] ∧ placeOf g st = n := by
  have h1 : st.next = L.length := by
    apply Decidable.byContradiction
    intro hne
    have := (h.at (st := st) (by omega)).2.2
    omega
  refine ⟨h1, by rw [h1]; simp, ?_⟩
  have := h.pe
  rw [← h1] at this
  exact this

/-- one rune taken by both -/
theorem Out.step {g : RG} {L : List (Nat × Int)} {n : Int} (hg : Gd g L n) {c c' : Sc} {st : RS} (hs : st.flt.form = none → seeOf g st ≠ -1 ∧ scStep c (seeOf g st) = some c') : Out L n c st = Out L n c' { st with next := st.next + 1 } := by
  cases hf : st.flt.form with
  | some p => rw [Out.told hf, Out.told (st := { st with next := st.next + 1 }) hf]
  | none =>
    obtain ⟨h1, h2⟩ := hs hf
    rw [Out.not hf, Out.not (st := { st with next := st.next + 1 }) hf, (hg.at (hg.seen h1)).1]
    exact formO_some h2
/-- a rune that neither takes, or the end where none may be -/
theorem Out.stop {g : RG} {L : List (Nat × Int)} {n : Int} (hg : Gd g L n) {c c' : Sc} {st : RS} (hn : st.next ≤ L.length) (hno : st.flt.form = none → seeOf g st ≠ -1 → scStep c (seeOf g st) = none) (hend : st.flt.form = none → seeOf g st = -1 → (isDone c.m && c.o == 0) = false) : Out L n c st = Out L n c' (refuseOf g st) := by
  cases hf : st.flt.form with
  | some p => rw [Out.told hf, Out.told (refuse_told hf)]
  | none =>
    rw [Out.not hf, Out.told (refuse_new hf)]
    by_cases he : seeOf g st = -1
    · obtain ⟨h1, h2, h3⟩ := hg.end_ hn he
      rw [h2, h3]
      unfold formO
      rw [hend hf he]
      rfl
    · have hl := hg.seen he
      obtain ⟨h1, h2, h3⟩ := hg.at hl
      rw [h1, h2]
      exact formO_none (p := (L[st.next].1, seeOf g st)) (hno hf he)
theorem Out.need {g : RG} {L : List (Nat × Int)} {n : Int} (hg : Gd g L n) {c c' : Sc} {st : RS} {l : List UInt8} (hn : st.next ≤ L.length) (hyes : st.flt.form = none → inSet l (seeOf g st) = true → scStep c (seeOf g st) = some c')
    (hno : st.flt.form = none → seeOf g st ≠ -1 → inSet l (seeOf g st) = false → scStep c (seeOf g st) = none) (hend : st.flt.form = none → seeOf g st = -1 → (isDone c.m && c.o == 0) = false) : Out L n c st = Out L n c' (needSt g l st) := by
  unfold needSt
  cases h : inSet l (seeOf g st)
  · exact Out.stop hg hn (fun a b => hno a b h) hend
  · exact Out.step hg (fun a => ⟨by intro e; rw [e, inSet_end] at h; exact absurd h (by simp), hyes a h⟩)
theorem Out.needOther {g : RG} {L : List (Nat × Int)} {n : Int} (hg : Gd g L n) {c c' : Sc} {st : RS} {l : List UInt8} (hn : st.next ≤ L.length) (hyes : st.flt.form = none → seeOf g st ≠ -1 → inSet l (seeOf g st) = false → scStep c (seeOf g st) = some c')
    (hno : st.flt.form = none → seeOf g st ≠ -1 → inSet l (seeOf g st) = true → scStep c (seeOf g st) = none) (hend : st.flt.form = none → seeOf g st = -1 → (isDone c.m && c.o == 0) = false) : Out L n c st = Out L n c' (needOtherSt g l st) := by
  unfold needOtherSt
  by_cases h : seeOf g st = -1 ∨ inSet l (seeOf g st) = true
  · rw [if_pos h]
    refine Out.stop hg hn (fun a b => ?_) hend
    rcases h with h | h
    · exact absurd h b
    · exact hno a b h
  · rw [if_neg h]
    rw [not_or] at h
    exact Out.step hg (fun a => ⟨h.1, hyes a h.1 (by simpa using h.2)⟩)
theorem Out.note {L : List (Nat × Int)} {n : Int} {c : Sc} {st : RS} {e p : Int} (he : e ≠ 3) : Out L n c (st.note e p) = Out L n c st := by
  unfold Out
  rw [note_told he]
  rfl
theorem Out.same {L : List (Nat × Int)} {n : Int} {c : Sc} {st st' : RS} (h1 : st'.flt.form = st.flt.form) (h2 : st'.next = st.next) : Out L n c st' = Out L n c st := by
  unfold Out
  rw [h1, h2]
end Go.Proofs.Ytlimhofdonkljaa
