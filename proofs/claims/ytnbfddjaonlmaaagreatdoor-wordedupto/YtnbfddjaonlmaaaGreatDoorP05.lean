/- Spans of runes, as plain functions: what newSet, others and bothKinds of the program make of them, and which runes are then in them. Nothing of the program is proved here. What the program's reader keeps of a pattern, as plain functions (a mirror of grammar.go): the spans of runes, the edges, the groups, the times. Nothing of the program is proved here. -/
import Derived.Test.YtnbfddjaonlmaaaGreatDoorP04
namespace Go.Proofs.YtnbfddjaonlmaaaGreatDoor
set_option linter.unusedVariables false
set_option maxRecDepth 100000

abbrev Spans := List (Int × Int)

def mergeStep (acc : Spans) (s : Int × Int) : Spans :=
  match acc.getLast? with
  | some p => if s.1 ≤ p.2 then acc.dropLast ++ [(p.1, max p.2 s.2)] else acc ++ [s]
  | none => [s]
def mergeAll (l : Spans) : Spans := l.foldl mergeStep []
def othStep (x : Spans × Int) (t : Int × Int) : Spans × Int := (if x.2 < t.1 then x.1 ++ [(x.2, t.1 - 1)] else x.1, t.2 + 1)
def othEnd (x : Spans × Int) : Spans := if x.2 ≤ 1114111 then x.1 ++ [(x.2, 1114111)] else x.1
def othersOf (S : Spans) : Spans := othEnd (S.foldl othStep ([], 0))
def smallStep (acc : Spans) (s : Int × Int) : Spans := if max s.1 97 ≤ min s.2 122 then acc ++ [(max s.1 97 - 32, min s.2 122 - 32)] else acc
def greatStep (acc : Spans) (s : Int × Int) : Spans := if max s.1 65 ≤ min s.2 90 then acc ++ [(max s.1 65 + 32, min s.2 90 + 32)] else acc
def bothStep (acc : Spans) (s : Int × Int) : Spans := greatStep (smallStep acc s) s
def bothOf (l : Spans) : Spans := l.foldl bothStep l

/-- in order, apart, none empty -/
def Tidied (S : Spans) : Prop := S.Pairwise (fun a b => a.2 < b.1) ∧ ∀ s ∈ S, s.1 ≤ s.2
/-- all within the runes (or -1: none) -/
def RuneSp (S : Spans) : Prop := ∀ s ∈ S, (-1 ≤ s.1 ∧ s.1 ≤ 1114111) ∧ (-1 ≤ s.2 ∧ s.2 ≤ 1114111)

theorem inSpans_nil (c : Int) : inSpans [] c = false := rfl
theorem inSpans_cons (s : Int × Int) (l : Spans) (c : Int) : inSpans (s :: l) c = ((decide (s.1 ≤ c) && decide (c ≤ s.2)) || inSpans l c) := rfl
theorem inSpans_append (a b : Spans) (c : Int) : inSpans (a ++ b) c = (inSpans a c || inSpans b c) := by simp [inSpans, List.any_append]
theorem inSpans_perm {a b : Spans} (h : a.Perm b) (c : Int) : inSpans a c = inSpans b c := by
  unfold inSpans
  rw [Bool.eq_iff_iff, List.any_eq_true, List.any_eq_true]
  exact ⟨fun ⟨x, hx, e⟩ => ⟨x, h.mem_iff.1 hx, e⟩, fun ⟨x, hx, e⟩ => ⟨x, h.mem_iff.2 hx, e⟩⟩
theorem inSpans_true {l : Spans} {c : Int} : inSpans l c = true ↔ ∃ s ∈ l, s.1 ≤ c ∧ c ≤ s.2 := by
  unfold inSpans
  rw [List.any_eq_true]
  constructor
  · rintro ⟨s, hs, h⟩; simp at h; exact ⟨s, hs, h⟩
  · rintro ⟨s, hs, h⟩; exact ⟨s, hs, by simp [h]⟩

theorem RuneSp.append {a b : Spans} (ha : RuneSp a) (hb : RuneSp b) : RuneSp (a ++ b) := fun s hs => by
  rcases List.mem_append.1 hs with h | h
  · exact ha s h
  · exact hb s h
theorem RuneSp.one {x y : Int} (h1 : -1 ≤ x ∧ x ≤ 1114111) (h2 : -1 ≤ y ∧ y ≤ 1114111) : RuneSp [(x, y)] := fun s hs => by
  simp at hs; subst hs; exact ⟨h1, h2⟩

/-! ## merge -/
theorem mergeStep_snoc (a : Spans) (p s : Int × Int) : mergeStep (a ++ [p]) s = if s.1 ≤ p.2 then a ++ [(p.1, max p.2 s.2)] else a ++ [p] ++ [s] := by
  unfold mergeStep
  simp [List.getLast?_append]
theorem mergeStep_nil (s : Int × Int) : mergeStep [] s = [s] := rfl
theorem snoc_cases (a : Spans) : a = [] ∨ ∃ b p, a = b ++ [p] := by
  cases h : a.reverse with
  | nil => left; simpa using h
  | cons p r => right; exact ⟨r.reverse, p, by have := congrArg List.reverse h; simpa using this⟩
theorem mergeStep_rune {a : Spans} {s : Int × Int} (ha : RuneSp a) (hs : RuneSp [s]) : RuneSp (mergeStep a s) := by
  rcases snoc_cases a with rfl | ⟨b, p, rfl⟩
  · exact hs
  · rw [mergeStep_snoc]
    have hp := ha p (by simp)
    have hs' := hs s (by simp)
    split
    · refine RuneSp.append (fun x hx => ha x (by simp [hx])) (RuneSp.one hp.1 ?_)
      omega
    · exact ha.append hs
theorem mergeStep_len (a : Spans) (s : Int × Int) : (mergeStep a s).length ≤ a.length + 1 := by
  rcases snoc_cases a with rfl | ⟨b, p, rfl⟩
  · simp [mergeStep_nil]
  · rw [mergeStep_snoc]
    split <;> simp
theorem mergeAll_take_succ (l : Spans) (i : Nat) (h : i < l.length) : mergeAll (l.take (i + 1)) = mergeStep (mergeAll (l.take i)) l[i] := by
  unfold mergeAll
  rw [List.take_add_one, List.foldl_append, List.getElem?_eq_getElem h]
  rfl
theorem mergeAll_rune_len (l : Spans) (h : RuneSp l) : RuneSp (mergeAll l) ∧ (mergeAll l).length ≤ l.length := by
  have : ∀ (l acc : Spans), RuneSp acc → RuneSp l → RuneSp (l.foldl mergeStep acc) ∧ (l.foldl mergeStep acc).length ≤ acc.length + l.length := by
    intro l
    induction l with
    | nil => intro acc ha _; exact ⟨ha, by simp⟩
    | cons s l ih =>
      intro acc ha hl
      have h1 := ih (mergeStep acc s) (mergeStep_rune ha (fun x hx => hl x (by simp at hx; simp [hx]))) (fun x hx => hl x (by simp [hx]))
      have h2 := mergeStep_len acc s
      exact ⟨h1.1, by simp only [List.foldl_cons, List.length_cons]; omega⟩
  have := this l [] (fun _ h => by simp at h) h
  exact ⟨this.1, by show (l.foldl mergeStep []).length ≤ _; simpa using this.2⟩
/-- what a merge of rising spans has -/
theorem mergeAll_has (l : Spans) (hs : l.Pairwise (fun a b => a.1 ≤ b.1)) (ho : ∀ s ∈ l, s.1 ≤ s.2) : Tidied (mergeAll l) ∧ ∀ c, inSpans (mergeAll l) c = inSpans l c := by
  have : ∀ (l acc : Spans), Tidied acc → (∀ p, acc.getLast? = some p → ∀ s ∈ l, p.1 ≤ s.1) → l.Pairwise (fun a b => a.1 ≤ b.1) → (∀ s ∈ l, s.1 ≤ s.2) → Tidied (l.foldl mergeStep acc) ∧ ∀ c, inSpans (l.foldl mergeStep acc) c = (inSpans acc c || inSpans l c) := by
    intro l
    induction l with
    | nil => intro acc ha _ _ _; exact ⟨ha, fun c => by simp [inSpans_nil]⟩
    | cons s l ih =>
      intro acc ha hb hl ho
      have hs1 := ho s (by simp)
      have hl1 := List.pairwise_cons.1 hl
      rcases snoc_cases acc with rfl | ⟨b, p, rfl⟩
      · have h1 := ih [s] ⟨by simp, by simpa using hs1⟩ (fun q hq x hx => by simp at hq; subst hq; exact hl1.1 x hx) hl1.2 (fun x hx => ho x (by simp [hx]))
        refine ⟨h1.1, fun c => ?_⟩
        show inSpans (l.foldl mergeStep [s]) c = _
        rw [h1.2, inSpans_cons, inSpans_cons, inSpans_nil]; simp
      · have hp := hb p (by simp [List.getLast?_append]) s (by simp)
        have hpo := ha.2 p (by simp)
        have hbp := List.pairwise_append.1 ha.1
        rw [List.foldl_cons, mergeStep_snoc]
        by_cases hm : s.1 ≤ p.2
        · rw [if_pos hm]
          have ht : Tidied (b ++ [(p.1, max p.2 s.2)]) := by
            refine ⟨List.pairwise_append.2 ⟨hbp.1, by simp, fun x hx y hy => ?_⟩, fun x hx => ?_⟩
            · simp at hy; subst hy; exact hbp.2.2 x hx p (by simp)
            · rcases List.mem_append.1 hx with h | h
              · exact ha.2 x (by simp [h])
              · simp at h; subst h; simp only; omega
          have h1 := ih (b ++ [(p.1, max p.2 s.2)]) ht (fun q hq x hx => by
            simp [List.getLast?_append] at hq; subst hq; exact hb p (by simp [List.getLast?_append]) x (by simp [hx])) hl1.2 (fun x hx => ho x (by simp [hx]))
          refine ⟨h1.1, fun c => ?_⟩
          rw [h1.2, inSpans_append, inSpans_append, inSpans_cons, inSpans_cons, inSpans_cons, inSpans_nil]
          cases inSpans b c <;> cases inSpans l c <;> simp
          rw [Bool.eq_iff_iff]; simp; omega
        · rw [if_neg hm]
          have ht : Tidied (b ++ [p] ++ [s]) := by
            refine ⟨List.pairwise_append.2 ⟨ha.1, by simp, fun x hx y hy => ?_⟩, fun x hx => ?_⟩
            · simp at hy; subst hy
              rcases List.mem_append.1 hx with h | h
              · have := hbp.2.2 x h p (by simp); omega
              · simp at h; subst h; omega
            · rcases List.mem_append.1 hx with h | h
              · exact ha.2 x h
              · simp at h; subst h; exact hs1
          have h1 := ih (b ++ [p] ++ [s]) ht (fun q hq x hx => by
            simp [List.getLast?_append] at hq; subst hq; exact hl1.1 x hx) hl1.2 (fun x hx => ho x (by simp [hx]))
          refine ⟨h1.1, fun c => ?_⟩
          rw [h1.2, inSpans_append, inSpans_cons, inSpans_cons, inSpans_nil]
          cases inSpans (b ++ [p]) c <;> cases inSpans l c <;> simp
  have := this l [] ⟨by simp, by simp⟩ (fun p h => by simp at h) hs ho
  exact ⟨this.1, fun c => by rw [show mergeAll l = l.foldl mergeStep [] from rfl, this.2]; simp [inSpans_nil]⟩

/-! ## others -/
theorem oth_take_succ (l : Spans) (i : Nat) (h : i < l.length) : (l.take (i + 1)).foldl othStep ([], 0) = othStep ((l.take i).foldl othStep ([], 0)) l[i] := by
  rw [List.take_add_one, List.foldl_append, List.getElem?_eq_getElem h]
  rfl
theorem oth_rune_len (l : Spans) (h : RuneSp l) : RuneSp (l.foldl othStep ([], 0)).1 ∧ (0 ≤ (l.foldl othStep ([], 0)).2 ∧ (l.foldl othStep ([], 0)).2 ≤ 1114112) ∧ (l.foldl othStep ([], 0)).1.length ≤ l.length := by
  have : ∀ (l : Spans) (x : Spans × Int), RuneSp x.1 → (0 ≤ x.2 ∧ x.2 ≤ 1114112) → RuneSp l → RuneSp (l.foldl othStep x).1 ∧ (0 ≤ (l.foldl othStep x).2 ∧ (l.foldl othStep x).2 ≤ 1114112) ∧ (l.foldl othStep x).1.length ≤ x.1.length + l.length := by
    intro l
    induction l with
    | nil => intro x h1 h2 _; exact ⟨h1, h2, by simp⟩
    | cons s l ih =>
      intro x h1 h2 hl
      have hs := hl s (by simp)
      have q := ih (othStep x s) (by
        unfold othStep
        split
        · exact h1.append (RuneSp.one (by omega) (by omega))
        · exact h1) (by unfold othStep; simp only; omega) (fun y hy => hl y (by simp [hy]))
      refine ⟨q.1, q.2.1, ?_⟩
      have h3 : (othStep x s).1.length ≤ x.1.length + 1 := by unfold othStep; split <;> simp
      simp only [List.foldl_cons, List.length_cons]; omega
  have := this l ([], 0) (fun _ h => by simp at h) (by simp) h
  exact ⟨this.1, this.2.1, by simpa using this.2.2⟩
theorem othersOf_rune_len (l : Spans) (h : RuneSp l) : RuneSp (othersOf l) ∧ (othersOf l).length ≤ l.length + 1 := by
  obtain ⟨h1, h2, h3⟩ := oth_rune_len l h
  unfold othersOf othEnd
  split
  · exact ⟨h1.append (RuneSp.one (by omega) (by omega)), by simp; omega⟩
  · exact ⟨h1, by omega⟩
theorem othersOf_has (l : Spans) (ht : Tidied l) (h0 : ∀ s ∈ l, 0 ≤ s.1 ∧ s.2 ≤ 1114111) : Tidied (othersOf l) ∧ ∀ c, 0 ≤ c → c ≤ 1114111 → inSpans (othersOf l) c = !inSpans l c := by
  have : ∀ (l : Spans) (x : Spans × Int), Tidied x.1 → (∀ s ∈ x.1, s.2 < x.2) → 0 ≤ x.2 → (∀ s ∈ l, x.2 ≤ s.1) → Tidied l → (∀ s ∈ l, s.2 ≤ 1114111) → Tidied (othEnd (l.foldl othStep x)) ∧ ∀ c, 0 ≤ c → c ≤ 1114111 → inSpans (othEnd (l.foldl othStep x)) c = (inSpans x.1 c || (decide (x.2 ≤ c) && !inSpans l c)) := by
    intro l
    induction l with
    | nil =>
      intro x h1 h2 h3 _ _ _
      show Tidied (othEnd x) ∧ ∀ c, 0 ≤ c → c ≤ 1114111 → inSpans (othEnd x) c = _
      unfold othEnd
      by_cases hx : x.2 ≤ 1114111
      · rw [if_pos hx]
        refine ⟨⟨List.pairwise_append.2 ⟨h1.1, by simp, fun a ha b hb => ?_⟩, fun a ha => ?_⟩, fun c c1 c2 => ?_⟩
        · simp at hb; subst hb; exact h2 a ha
        · rcases List.mem_append.1 ha with h | h
          · exact h1.2 a h
          · simp at h; subst h; exact hx
        · rw [inSpans_append, inSpans_cons, inSpans_nil]; simp [c2]
      · rw [if_neg hx]
        refine ⟨h1, fun c c1 c2 => ?_⟩
        have : decide (x.2 ≤ c) = false := by simp; omega
        rw [this]; simp
    | cons s l ih =>
      intro x h1 h2 h3 h4 h5 h6
      have hs := h4 s (by simp)
      have hso := h5.2 s (by simp)
      have hl5 := List.pairwise_cons.1 h5.1
      have t1 : Tidied (othStep x s).1 := by
        unfold othStep
        simp only
        split
        · refine ⟨List.pairwise_append.2 ⟨h1.1, by simp, fun a ha b hb => ?_⟩, fun a ha => ?_⟩
          · simp at hb; subst hb; exact h2 a ha
          · rcases List.mem_append.1 ha with h | h
            · exact h1.2 a h
            · simp at h; subst h; simp only; omega
        · exact h1
      have q := ih (othStep x s) t1 (by
        unfold othStep
        simp only
        split
        · intro a ha
          rcases List.mem_append.1 ha with h | h
          · have := h2 a h; omega
          · simp at h; subst h; simp only; omega
        · intro a ha; have := h2 a ha; omega) (by unfold othStep; simp only; omega) (by
        intro y hy; unfold othStep; simp only; have := hl5.1 y hy; omega) ⟨hl5.2, fun y hy => h5.2 y (by simp [hy])⟩ (fun y hy => h6 y (by simp [hy]))
      refine ⟨q.1, fun c c1 c2 => ?_⟩
      rw [List.foldl_cons, q.2 c c1 c2, inSpans_cons]
      have hl : inSpans l c = true → s.2 < c := by
        intro h
        obtain ⟨y, hy, hyc⟩ := inSpans_true.1 h
        have := hl5.1 y hy; omega
      unfold othStep
      simp only
      split
      · rw [inSpans_append, inSpans_cons, inSpans_nil]
        cases hlc : inSpans l c
        · cases inSpans x.1 c <;> simp
          rw [Bool.eq_iff_iff]; simp; omega
        · have := hl hlc
          cases inSpans x.1 c <;> simp
          omega
      · cases hlc : inSpans l c
        · cases inSpans x.1 c <;> simp
          rw [Bool.eq_iff_iff]; simp; omega
        · have := hl hlc
          cases inSpans x.1 c <;> simp
  have := this l ([], 0) ⟨by simp, by simp⟩ (by simp) (by simp) (fun s hs => (h0 s hs).1) ht (fun s hs => (h0 s hs).2)
  refine ⟨this.1, fun c c1 c2 => ?_⟩
  unfold othersOf
  rw [this.2 c c1 c2]; simp [inSpans_nil, c1]

/-! ## both kinds of letters -/
theorem both_take_succ (l acc : Spans) (i : Nat) (h : i < l.length) : (l.take (i + 1)).foldl bothStep acc = bothStep ((l.take i).foldl bothStep acc) l[i] := by
  rw [List.take_add_one, List.foldl_append, List.getElem?_eq_getElem h]
  rfl
theorem smallStep_len (a : Spans) (s : Int × Int) : a.length ≤ (smallStep a s).length ∧ (smallStep a s).length ≤ a.length + 1 := by unfold smallStep; split <;> simp
theorem greatStep_len (a : Spans) (s : Int × Int) : a.length ≤ (greatStep a s).length ∧ (greatStep a s).length ≤ a.length + 1 := by unfold greatStep; split <;> simp
theorem both_rune_len (l acc : Spans) (h : RuneSp l) (ha : RuneSp acc) : RuneSp (l.foldl bothStep acc) ∧ (l.foldl bothStep acc).length ≤ acc.length + 2 * l.length := by
  induction l generalizing acc with
  | nil => exact ⟨ha, by simp⟩
  | cons s l ih =>
    have hs := h s (by simp)
    have h1 : RuneSp (smallStep acc s) := by
      unfold smallStep
      split
      · exact ha.append (RuneSp.one (by omega) (by omega))
      · exact ha
    have h2 : RuneSp (bothStep acc s) := by
      unfold bothStep greatStep
      split
      · exact h1.append (RuneSp.one (by omega) (by omega))
      · exact h1
    have q := ih (bothStep acc s) (fun y hy => h y (by simp [hy])) h2
    refine ⟨q.1, ?_⟩
    have l1 := smallStep_len acc s
    have l2 : (bothStep acc s).length ≤ (smallStep acc s).length + 1 := (greatStep_len (smallStep acc s) s).2
    simp only [List.foldl_cons, List.length_cons]; omega
theorem bothStep_has (a : Spans) (s : Int × Int) (c : Int) : inSpans (bothStep a s) c = (inSpans a c || (letterOf c && (decide (s.1 ≤ otherOf c) && decide (otherOf c ≤ s.2)))) := by
  have h1 : inSpans (smallStep a s) c = (inSpans a c || (decide (65 ≤ c) && decide (c ≤ 90) && (decide (s.1 ≤ c + 32) && decide (c + 32 ≤ s.2)))) := by
    unfold smallStep
    split
    · rw [inSpans_append, inSpans_cons, inSpans_nil]
      cases inSpans a c <;> simp
      rw [Bool.eq_iff_iff]; simp; omega
    · cases inSpans a c <;> simp
      omega
  have h2 : inSpans (bothStep a s) c = (inSpans (smallStep a s) c || (decide (97 ≤ c) && decide (c ≤ 122) && (decide (s.1 ≤ c - 32) && decide (c - 32 ≤ s.2)))) := by
    unfold bothStep greatStep
    split
    · rw [inSpans_append, inSpans_cons, inSpans_nil]
      cases inSpans (smallStep a s) c <;> simp
      rw [Bool.eq_iff_iff]; simp; omega
    · cases inSpans (smallStep a s) c <;> simp
      omega
  rw [h2, h1]
  unfold letterOf otherOf
  cases inSpans a c <;> simp
  rw [Bool.eq_iff_iff]
  by_cases h : 97 ≤ c
  · simp [h]; omega
  · simp [h]
theorem bothOf_has (l : Spans) (c : Int) : inSpans (bothOf l) c = (inSpans l c || (letterOf c && inSpans l (otherOf c))) := by
  have : ∀ (l acc : Spans), inSpans (l.foldl bothStep acc) c = (inSpans acc c || (letterOf c && inSpans l (otherOf c))) := by
    intro l
    induction l with
    | nil => intro acc; simp [inSpans_nil]
    | cons s l ih =>
      intro acc
      rw [List.foldl_cons, ih, bothStep_has, inSpans_cons]
      cases inSpans acc c <;> cases letterOf c <;> simp
  exact this l l
theorem bothOf_order (l : Spans) (h : ∀ s ∈ l, 0 ≤ s.1 ∧ s.1 ≤ s.2 ∧ s.2 ≤ 1114111) : ∀ s ∈ bothOf l, 0 ≤ s.1 ∧ s.1 ≤ s.2 ∧ s.2 ≤ 1114111 := by
  have : ∀ (l acc : Spans), (∀ s ∈ l, 0 ≤ s.1 ∧ s.1 ≤ s.2 ∧ s.2 ≤ 1114111) → (∀ s ∈ acc, 0 ≤ s.1 ∧ s.1 ≤ s.2 ∧ s.2 ≤ 1114111) → ∀ s ∈ l.foldl bothStep acc, 0 ≤ s.1 ∧ s.1 ≤ s.2 ∧ s.2 ≤ 1114111 := by
    intro l
    induction l with
    | nil => intro acc _ h; exact h
    | cons s l ih =>
      intro acc hl ha
      refine ih (bothStep acc s) (fun y hy => hl y (by simp [hy])) ?_
      have h1 : ∀ y ∈ smallStep acc s, 0 ≤ y.1 ∧ y.1 ≤ y.2 ∧ y.2 ≤ 1114111 := by
        unfold smallStep
        split
        · intro y hy
          rcases List.mem_append.1 hy with h | h
          · exact ha y h
          · simp at h; subst h; simp only; omega
        · exact ha
      unfold bothStep greatStep
      split
      · intro y hy
        rcases List.mem_append.1 hy with h | h
        · exact h1 y h
        · simp at h; subst h; simp only; omega
      · exact h1
  exact this l l h h

/-- the set S is what the program makes of spans: 'fo': both kinds of letters; 'nt': the others -/
def SetOf (S sp : Spans) (fo nt : Bool) : Prop :=
  ∃ l : Spans, l.Perm (if fo then bothOf sp else sp) ∧ l.Pairwise (fun a b => a.1 ≤ b.1) ∧ S = if nt then othersOf (mergeAll l) else mergeAll l
theorem SetOf.rune_len {S sp : Spans} {fo nt : Bool} (h : SetOf S sp fo nt) (hr : RuneSp sp) : RuneSp S ∧ S.length ≤ 3 * sp.length + 1 := by
  obtain ⟨l, hp, _, rfl⟩ := h
  have hb : RuneSp (if fo then bothOf sp else sp) ∧ (if fo then bothOf sp else sp).length ≤ 3 * sp.length := by
    cases fo
    · exact ⟨hr, by simp; omega⟩
    · have := both_rune_len sp sp hr hr
      exact ⟨this.1, by show (bothOf sp).length ≤ _; unfold bothOf; omega⟩
  have hl : RuneSp l := fun s hs => hb.1 s (hp.mem_iff.1 hs)
  have hm := mergeAll_rune_len l hl
  have hll := hp.length_eq
  cases nt
  · exact ⟨hm.1, by simp only [Bool.false_eq_true, if_false]; omega⟩
  · have := othersOf_rune_len _ hm.1
    exact ⟨this.1, by simp only [if_true]; omega⟩
theorem SetOf.has {S sp : Spans} {fo nt : Bool} (h : SetOf S sp fo nt) (ho : ∀ s ∈ sp, 0 ≤ s.1 ∧ s.1 ≤ s.2 ∧ s.2 ≤ 1114111) :
    Tidied S ∧ ∀ c, 0 ≤ c → c ≤ 1114111 → inSpans S c = ((inSpans sp c || (fo && letterOf c && inSpans sp (otherOf c))) != nt) := by
  obtain ⟨l, hp, hs, rfl⟩ := h
  have hb : (∀ s ∈ (if fo then bothOf sp else sp), 0 ≤ s.1 ∧ s.1 ≤ s.2 ∧ s.2 ≤ 1114111) ∧ ∀ c, inSpans (if fo then bothOf sp else sp) c = (inSpans sp c || (fo && letterOf c && inSpans sp (otherOf c))) := by
    cases fo
    · exact ⟨ho, fun c => by simp⟩
    · exact ⟨bothOf_order sp ho, fun c => by simp [bothOf_has]⟩
  have hl : ∀ s ∈ l, 0 ≤ s.1 ∧ s.1 ≤ s.2 ∧ s.2 ≤ 1114111 := fun s hs => hb.1 s (hp.mem_iff.1 hs)
  have hm := mergeAll_has l hs (fun s h => (hl s h).2.1)
  have hc : ∀ c, inSpans (mergeAll l) c = (inSpans sp c || (fo && letterOf c && inSpans sp (otherOf c))) := fun c => by rw [hm.2, inSpans_perm hp, hb.2]
  cases nt
  · exact ⟨hm.1, fun c _ _ => by simp only [Bool.false_eq_true, if_false]; rw [hc]; simp⟩
  · have hin : ∀ s ∈ mergeAll l, 0 ≤ s.1 ∧ s.2 ≤ 1114111 := by
      intro s hs'
      have h1 := hm.1.2 s hs'
      obtain ⟨y, hy, hy2⟩ := inSpans_true.1 ((hm.2 s.1).symm.trans (inSpans_true.2 ⟨s, hs', by omega⟩))
      obtain ⟨z, hz, hz2⟩ := inSpans_true.1 ((hm.2 s.2).symm.trans (inSpans_true.2 ⟨s, hs', by omega⟩))
      have := hl y hy; have := hl z hz
      omega
    have := othersOf_has _ hm.1 hin
    exact ⟨this.1, fun c c1 c2 => by simp only [if_true]; rw [this.2 c c1 c2, hc]; simp⟩
end Go.Proofs.YtnbfddjaonlmaaaGreatDoor

namespace Go.Proofs.YtnbfddjaonlmaaaGreatDoor
set_option linter.unusedVariables false
set_option maxRecDepth 100000

def lOthers : List UInt8 := [68, 87, 83]
def lWordEdge : List UInt8 := [98, 66]
def lTextEdge : List UInt8 := [94, 36]
def lDot : List UInt8 := [46]
/-- what a letter behind a backslash stands for -/
def setSpans (r : Int) : Spans := if r = 100 then [(48, 57)] else if r = 119 then [(48, 57), (65, 90), (95, 95), (97, 122)] else [(9, 10), (13, 13), (32, 32)]
def edgeNo (r : Int) : Int := if r = 94 then 0 else if r = 36 then 1 else if r = 98 then 2 else 3

/-- a piece of a pattern: its kind, spans, whether both kinds of letters, whether the others, edge, group, low, high, lazy, parts -/
inductive CT where
  | node (k : Int) (sp : Spans) (fo nt : Bool) (ed gr lo hi : Int) (lz : Bool) (kids : List CT) : CT

def cLeaf (sp : Spans) (fo nt : Bool) : CT := .node 0 sp fo nt 0 0 0 0 false []
def cEdge (e : Int) : CT := .node 1 [] false false e 0 0 0 false []
def cItem (g : RG) (st : RS) : Spans :=
  if inSet lBack (seeOf g st) = true ∧ inSet lSets (seeOf g { st with next := st.next + 1 }) = true then setSpans (seeOf g { st with next := st.next + 1 })
  else [((pOne' g st).2, if inSet lDash (seeOf g (pOne' g st).1) then (pOne' g { (pOne' g st).1 with next := (pOne' g st).1.next + 1 }).2 else (pOne' g st).2)]
def cItems (g : RG) : Nat → RS → Spans → Spans
  | 0, _, acc => acc
  | m + 1, st, acc => if seeOf g st = -1 ∨ inSet lSquare (seeOf g st) = true then acc else cItems g m (pItem g st) (acc ++ cItem g st)
def cClass (g : RG) (fo : Bool) (st : RS) : CT :=
  cLeaf (cItems g (g.rs.length + 1) (pItem g (takeOf g lCaret st)) (cItem g (takeOf g lCaret st))) fo (inSet lCaret (seeOf g st))
/-- what stands behind a backslash -/
def cEscape (fo : Bool) (q : Int) : CT :=
  if inSet lWordEdge q then cEdge (edgeNo q)
  else if inSet lSets q then cLeaf (setSpans q) fo false
  else if inSet lOthers q then cLeaf (setSpans (q + 32)) fo true
  else cLeaf [(escRune q, escRune q)] fo false
def cSingle (fo : Bool) (q : Int) : CT := if inSet lDot q then cLeaf [(10, 10)] fo true else cEdge (edgeNo q)
def cBracket (g : RG) (calt : Bool → RS → CT) (fo : Bool) (st : RS) : CT :=
  if inSet lQuery (seeOf g st) = false then .node 2 [] false false 0 (st.groups + 1) 0 0 false [calt fo (pHead g st)]
  else if inSet lLess (seeOf g { st with next := st.next + 1 }) then .node 2 [] false false 0 (st.groups + 1) 0 0 false [calt fo (pHead g st)]
  else .node 2 [] false false 0 0 0 0 false [calt (inSet lI (seeOf g { st with next := st.next + 1 }) || fo) (pHead g st)]
def cAtom (g : RG) (calt : Bool → RS → CT) (fo : Bool) (st : RS) : CT :=
  if inSet lOpenRound (seeOf g st) then cBracket g calt fo { st with next := st.next + 1 }
  else if inSet lOpenSquare (seeOf g st) then cClass g fo { st with next := st.next + 1 }
  else if inSet lBack (seeOf g st) then cEscape fo (seeOf g { st with next := st.next + 1 })
  else if inSet lSingles (seeOf g st) then cSingle fo (seeOf g st)
  else cLeaf [(seeOf g st, seeOf g st)] fo false
def cTimes (a : CT) (lo hi : Int) (lz : Bool) : CT := .node 5 [] false false 0 0 lo hi lz [a]
def cRepeated (g : RG) (a : CT) (st : RS) : CT :=
  if inSet lStar (seeOf g st) then cTimes a 0 (-1) (inSet lQuery (seeOf g { st with next := st.next + 1 }))
  else if inSet lPlus (seeOf g st) then cTimes a 1 (-1) (inSet lQuery (seeOf g { st with next := st.next + 1 }))
  else if inSet lQuery (seeOf g st) then cTimes a 0 1 (inSet lQuery (seeOf g { st with next := st.next + 1 }))
  else if inSet lOpenBrace (seeOf g st) then
    cTimes a (pBounds g { st with next := st.next + 1 }).2.1 (pBounds g { st with next := st.next + 1 }).2.2 (inSet lQuery (seeOf g (pBounds g { st with next := st.next + 1 }).1))
  else a
def cSeqs (g : RG) (alt : RS → RS × PT) (calt : Bool → RS → CT) (fo : Bool) : Nat → RS → List CT → List CT
  | 0, _, acc => acc
  | m + 1, st, acc =>
    if seeOf g st = -1 ∨ inSet lBarRound (seeOf g st) = true then acc
    else cSeqs g alt calt fo m (pRepeated g (pAtom g alt st).2 (pAtom g alt st).1).1 (acc ++ [cRepeated g (cAtom g calt fo st) (pAtom g alt st).1])
def cSeq (g : RG) (alt : RS → RS × PT) (calt : Bool → RS → CT) (fo : Bool) (st : RS) : CT := .node 3 [] false false 0 0 0 0 false (cSeqs g alt calt fo (g.rs.length + 1) st [])
def cAlts (g : RG) (alt : RS → RS × PT) (calt : Bool → RS → CT) (fo : Bool) : Nat → RS → List CT → List CT
  | 0, _, acc => acc
  | m + 1, st, acc =>
    if inSet lBar (seeOf g st) then cAlts g alt calt fo m (pSeq g alt { st with next := st.next + 1 }).1 (acc ++ [cSeq g alt calt fo { st with next := st.next + 1 }]) else acc
def cAlt (g : RG) : Nat → Bool → RS → CT
  | 0, _, _ => cLeaf [] false false
  | k + 1, fo, st => .node 4 [] false false 0 0 0 0 false (cAlts g (pAlt g k) (cAlt g k) fo (g.rs.length + 1) (pSeq g (pAlt g k) st).1 [cSeq g (pAlt g k) (cAlt g k) fo st])
def cWhole (g : RG) (st : RS) : CT := cAlt g (g.rs.length + 1) false st

theorem cItems_end (g : RG) (m : Nat) (st : RS) (acc : Spans) (h : seeOf g st = -1 ∨ inSet lSquare (seeOf g st) = true) : cItems g m st acc = acc := by
  cases m with
  | zero => rfl
  | succ m => unfold cItems; rw [if_pos h]
theorem cSeqs_end (g : RG) (alt : RS → RS × PT) (calt : Bool → RS → CT) (fo : Bool) (m : Nat) (st : RS) (acc : List CT) (h : seeOf g st = -1 ∨ inSet lBarRound (seeOf g st) = true) : cSeqs g alt calt fo m st acc = acc := by
  cases m with
  | zero => rfl
  | succ m => unfold cSeqs; rw [if_pos h]
theorem cAlts_end (g : RG) (alt : RS → RS × PT) (calt : Bool → RS → CT) (fo : Bool) (m : Nat) (st : RS) (acc : List CT) (h : inSet lBar (seeOf g st) = false) : cAlts g alt calt fo m st acc = acc := by
  cases m with
  | zero => rfl
  | succ m => unfold cAlts; rw [if_neg (by rw [h]; simp)]

/-! ## within the runes -/
theorem setSpans_rune (r : Int) : RuneSp (setSpans r) ∧ 1 ≤ (setSpans r).length ∧ (setSpans r).length ≤ 4 := by
  unfold setSpans
  split
  · exact ⟨fun s h => by simp at h; subst h; decide, by simp, by simp⟩
  · split
    · exact ⟨fun s h => by simp at h; rcases h with rfl | rfl | rfl | rfl <;> decide, by simp, by simp⟩
    · exact ⟨fun s h => by simp at h; rcases h with rfl | rfl | rfl <;> decide, by simp, by simp⟩
theorem escRune_range {q : Int} (h : -1 ≤ q ∧ q ≤ 1114111) : -1 ≤ escRune q ∧ escRune q ≤ 1114111 := by
  unfold escRune
  split
  · omega
  · split
    · omega
    · split <;> omega
theorem pOne_rune {g : RG} (hs : ∀ st : RS, -1 ≤ seeOf g st ∧ seeOf g st ≤ 1114111) (esc : Bool) (st : RS) : -1 ≤ (pOne g esc st).2 ∧ (pOne g esc st).2 ≤ 1114111 := by
  unfold pOne
  cases esc
  · exact hs st
  · exact escRune_range (hs st)
theorem cItem_rune {g : RG} (hs : ∀ st : RS, -1 ≤ seeOf g st ∧ seeOf g st ≤ 1114111) (st : RS) : RuneSp (cItem g st) ∧ 1 ≤ (cItem g st).length ∧ (cItem g st).length ≤ 4 := by
  unfold cItem
  split
  · exact setSpans_rune _
  · have h1 := pOne_rune hs (inSet lBack (seeOf g st)) (takeOf g lBack st)
    refine ⟨RuneSp.one h1 ?_, by simp, by simp⟩
    split
    · exact pOne_rune hs _ _
    · exact h1
end Go.Proofs.YtnbfddjaonlmaaaGreatDoor
