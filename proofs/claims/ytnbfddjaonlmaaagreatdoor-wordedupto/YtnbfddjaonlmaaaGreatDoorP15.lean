/- The program's machine as plain functions (a mirror of machine/builder.go), and its shape: numbers of states are right, whoever goes on at a place comes to an end. Nothing of the program is proved here. -/
import Derived.Test.YtnbfddjaonlmaaaGreatDoorP05
namespace Go.Proofs.YtnbfddjaonlmaaaGreatDoor
set_option linter.unusedVariables false
set_option maxRecDepth 100000

/-- a state: kind, set (spans, both kinds of letters, the others), edge, slot, next, other -/
structure MS where
  kind : Int
  sp : Spans
  fo : Bool
  nt : Bool
  edge : Int
  slot : Int
  next : Int
  other : Int
def zeroS : MS := ⟨0, [], false, false, 0, 0, 0, 0⟩
def takeS (sp : Spans) (fo nt : Bool) (nx : Int) : MS := ⟨1, sp, fo, nt, 0, 0, nx, 0⟩
def standS (e : Int) (nx : Int) : MS := ⟨2, [], false, false, e, 0, nx, 0⟩
def markS (s : Int) (nx : Int) : MS := ⟨3, [], false, false, 0, s, nx, 0⟩
def forkS (a b : Int) : MS := ⟨4, [], false, false, 0, 0, a, b⟩
abbrev Ex := Int × Int
abbrev Bl := List MS → Ex → List MS × Ex

def bLead (s : Int → MS) : Bl := fun st nx =>
  if nx.1 = nx.2 then (st ++ [s nx.2], (st.length, st.length))
  else if nx.1 = -1 then (st ++ [s nx.2], (-1, st.length))
  else (st ++ [s nx.2] ++ [s nx.1], (st.length + 1, st.length))
def bForkOne (st : List MS) (a b : Int) : List MS × Int := if a = -1 then (st, b) else if b = -1 then (st, a) else (st ++ [forkS a b], st.length)
def bFork (st : List MS) (f s : Ex) : List MS × Ex :=
  if f.1 = f.2 ∧ s.1 = s.2 then ((bForkOne st f.2 s.2).1, ((bForkOne st f.2 s.2).2, (bForkOne st f.2 s.2).2))
  else ((bForkOne (bForkOne st f.2 s.2).1 f.1 s.1).1, ((bForkOne (bForkOne st f.2 s.2).1 f.1 s.1).2, (bForkOne st f.2 s.2).2))
def bEither (lz : Bool) (st : List MS) (part rest : Ex) : List MS × Ex := if lz then bFork st rest part else bFork st part rest
def bReps (part : Bl) : Nat → Bl
  | 0 => fun st nx => (st, nx)
  | m + 1 => fun st nx => bReps part m (part st nx).1 (part st nx).2
def bOpts (part : Bl) (lz : Bool) (nx : Ex) : Nat → Bl
  | 0 => fun st all => (st, all)
  | m + 1 => fun st all => bOpts part lz nx m (bEither lz (part st all).1 (part st all).2 nx).1 (bEither lz (part st all).1 (part st all).2 nx).2
/-- a star, ahead of the last writing -/
def bLoop0 (part : Bl) (lz : Bool) : Bl := fun st nx =>
  bEither lz (part (st ++ [zeroS]) (-1, st.length)).1 ((part (st ++ [zeroS]) (-1, st.length)).2.1, (part (st ++ [zeroS]) (-1, st.length)).2.1) nx
def bLoop (part : Bl) (lz : Bool) : Bl := fun st nx => ((bLoop0 part lz st nx).1.set st.length ((bLoop0 part lz st nx).1.getD (bLoop0 part lz st nx).2.2.toNat zeroS), (bLoop0 part lz st nx).2)
def bTimes (part : Bl) (lo hi : Int) (lz : Bool) : Bl := fun st nx =>
  if hi = -1 then bReps part lo.toNat (bLoop part lz st nx).1 (bLoop part lz st nx).2
  else bReps part lo.toNat (bOpts part lz nx (hi - lo).toNat st nx).1 (bOpts part lz nx (hi - lo).toNat st nx).2

mutual
def bPiece : CT → Bl
  | .node k sp fo nt ed gr lo hi lz kids => fun st nx =>
    if k = 0 then (st ++ [takeS sp fo nt nx.2], (st.length, st.length))
    else if k = 1 then bLead (standS ed) st nx
    else if k = 2 then
      if gr = 0 then bOne kids st nx
      else bLead (markS (2 * (gr - 1))) (bOne kids (bLead (markS (2 * (gr - 1) + 1)) st nx).1 (bLead (markS (2 * (gr - 1) + 1)) st nx).2).1 (bOne kids (bLead (markS (2 * (gr - 1) + 1)) st nx).1 (bLead (markS (2 * (gr - 1) + 1)) st nx).2).2
    else if k = 3 then bSeq kids st nx
    else if k = 4 then bAlt kids st nx
    else bTimes (bOne kids) lo hi lz st nx
def bOne : List CT → Bl
  | [] => fun st nx => (st, nx)
  | c :: _ => bPiece c
def bSeq : List CT → Bl
  | [] => fun st nx => (st, nx)
  | c :: cs => fun st nx => bPiece c (bSeq cs st nx).1 (bSeq cs st nx).2
def bAlt : List CT → Bl
  | [] => fun st nx => (st, nx)
  | [c] => bPiece c
  | c :: d :: cs => fun st nx => bFork (bPiece c (bAlt (d :: cs) st nx).1 nx).1 (bPiece c (bAlt (d :: cs) st nx).1 nx).2 (bAlt (d :: cs) st nx).2
end

/-! ## sizes, and what a pattern without a fault is -/
mutual
def CT.sz : CT → Int
  | .node k sp fo nt ed gr lo hi lz kids =>
    min (if k = 0 ∨ k = 1 ∨ k = 2 then CT.szs kids + 1 else if k = 4 then CT.szs kids + ((kids.length : Int) - 1) else if k = 5 then (if hi = -1 then lo + 1 else hi) * (CT.szs kids + 1) else CT.szs kids) 1001
def CT.szs : List CT → Int
  | [] => 0
  | c :: cs => CT.sz c + CT.szs cs
end
mutual
def CT.ok : CT → Prop
  | .node k sp fo nt ed gr lo hi lz kids =>
    (k = 0 ∨ k = 1 ∨ k = 2 ∨ k = 3 ∨ k = 4 ∨ k = 5) ∧ (k = 2 ∨ k = 5 → kids.length = 1) ∧ (k = 4 → kids ≠ []) ∧ (k = 5 → 0 ≤ lo ∧ lo ≤ 20 ∧ -1 ≤ hi ∧ hi ≤ 20 ∧ (hi = -1 ∨ lo ≤ hi)) ∧ CT.oks kids
def CT.oks : List CT → Prop
  | [] => True
  | c :: cs => CT.ok c ∧ CT.oks cs
end

/-! ## the shape of what a builder makes -/
def XOk (n : Nat) (nx : Ex) : Prop := (0 ≤ nx.2 ∧ nx.2 < n) ∧ (-1 ≤ nx.1 ∧ nx.1 < n)
def SOk (n : Nat) (m : MS) : Prop := (0 ≤ m.next ∧ m.next < n) ∧ (0 ≤ m.other ∧ m.other < n)
def AllOk (st : List MS) : Prop := ∀ m ∈ st, SOk st.length m
theorem SOk.mono {n k : Nat} {m : MS} (h : SOk n m) (hle : n ≤ k) : SOk k m := by unfold SOk at *; omega
theorem XOk.mono {n k : Nat} {x : Ex} (h : XOk n x) (hle : n ≤ k) : XOk k x := by unfold XOk at *; omega
theorem AllOk.snoc {st : List MS} (h : AllOk st) {m : MS} (hm : SOk (st.length + 1) m) : AllOk (st ++ [m]) := by
  intro y hy
  simp only [List.length_append, List.length_cons, List.length_nil]
  rcases List.mem_append.1 hy with h1 | h1
  · exact (h y h1).mono (by omega)
  · simp at h1; subst h1; exact hm

/-- the new states lie in M -/
def Has (M : List MS) (a b : Nat) (st : List MS) : Prop := ∀ j, a ≤ j → j < b → M[j]? = st[j]?
theorem take_take {a b c : List MS} (h1 : b.take a.length = a) (h2 : c.take b.length = b) (hl : a.length ≤ b.length) : c.take a.length = a := by
  have e : (c.take b.length).take a.length = c.take a.length := by rw [List.take_take, Nat.min_eq_left hl]
  rw [← e, h2, h1]
theorem get_grow {a b : List MS} (h : b.take a.length = a) {j : Nat} (hj : j < a.length) : b[j]? = a[j]? := by
  have e : (b.take a.length)[j]? = b[j]? := List.getElem?_take_of_lt hj
  rw [← e, h]
theorem Has.left {M a b : List MS} {l : Nat} (h : Has M l b.length b) (hg : b.take a.length = a) (hle : a.length ≤ b.length) : Has M l a.length a := fun j h1 h2 => by
  rw [h j h1 (by omega), get_grow hg h2]
theorem Has.right {M a b : List MS} {l : Nat} (h : Has M l b.length b) (hle : l ≤ a.length) : Has M a.length b.length b := fun j h1 h2 => h j (by omega) h2

/-- what goes on at a place comes to an end -/
inductive Ends (M : List MS) : Int → Prop where
  | stop (s : Nat) (m : MS) (h : M[s]? = some m) (hk : m.kind ≠ 2 ∧ m.kind ≠ 3 ∧ m.kind ≠ 4) : Ends M s
  | one (s : Nat) (m : MS) (h : M[s]? = some m) (hk : m.kind = 2 ∨ m.kind = 3) (hn : Ends M m.next) : Ends M s
  | two (s : Nat) (m : MS) (h : M[s]? = some m) (hk : m.kind = 4) (hn : Ends M m.next) (ho : Ends M m.other) : Ends M s
theorem Ends.nonneg {M : List MS} {s : Int} (h : Ends M s) : 0 ≤ s := by cases h <;> omega
def EndsO (M : List MS) (s : Int) : Prop := s = -1 ∨ Ends M s
theorem EndsO.ends {M : List MS} {s : Int} (h : EndsO M s) (hs : s ≠ -1) : Ends M s := h.resolve_left hs

def InX (N : Nat → Prop) (nx : Ex) (s : Int) : Prop := (∃ j : Nat, s = j ∧ N j) ∨ s = nx.2 ∨ (s = nx.1 ∧ nx.1 ≠ -1)
theorem InX.mono {N N' : Nat → Prop} {nx : Ex} {s : Int} (h : InX N nx s) (hN : ∀ j, N j → N' j) : InX N' nx s := by
  rcases h with ⟨j, h1, h2⟩ | h
  · exact Or.inl ⟨j, h1, hN j h2⟩
  · exact Or.inr h
def Succs (P : Int → Prop) (m : MS) : Prop := (m.kind = 1 ∨ m.kind = 2 ∨ m.kind = 3 ∨ m.kind = 4 → P m.next) ∧ (m.kind = 4 → P m.other)
theorem Succs.mono {P Q : Int → Prop} {m : MS} (h : Succs P m) (hPQ : ∀ s, P s → Q s) : Succs Q m := ⟨fun a => hPQ _ (h.1 a), fun a => hPQ _ (h.2 a)⟩

/-- the states N, from a up to b: what leads out of them are the exits nx; the beginnings are x -/
structure Sub (M : List MS) (nx : Ex) (N : Nat → Prop) (a b : Nat) (x : Ex) : Prop where
  rng : ∀ j, N j → a ≤ j ∧ j < b
  in1 : x.1 = -1 ∨ InX N nx x.1
  in2 : InX N nx x.2
  e1 : EndsO M nx.1 → EndsO M x.1
  e2 : Ends M nx.2 → Ends M x.2
  cl : ∀ j, N j → ∃ m, M[j]? = some m ∧ Succs (InX N nx) m
  es : Ends M nx.2 → EndsO M nx.1 → ∀ j : Nat, N j → Ends M j

theorem Sub.refl (M : List MS) (nx : Ex) (a : Nat) : Sub M nx (fun _ => False) a a nx where
  rng j h := h.elim
  in1 := by
    by_cases h : nx.1 = -1
    · exact Or.inl h
    · exact Or.inr (Or.inr (Or.inr ⟨rfl, h⟩))
  in2 := Or.inr (Or.inl rfl)
  e1 h := h
  e2 h := h
  cl j h := h.elim
  es _ _ j h := h.elim

theorem Sub.lift {M : List MS} {nx x : Ex} {N N' : Nat → Prop} {a b : Nat} (h : Sub M nx N a b x) {s : Int} (hs : InX N' x s) : InX (fun j => N j ∨ N' j) nx s := by
  rcases hs with ⟨j, h1, h2⟩ | rfl | ⟨rfl, h2⟩
  · exact Or.inl ⟨j, h1, Or.inr h2⟩
  · exact h.in2.mono (fun j hj => Or.inl hj)
  · exact (h.in1.resolve_left h2).mono (fun j hj => Or.inl hj)

theorem Sub.trans {M : List MS} {nx x y : Ex} {N N' : Nat → Prop} {a b c : Nat} (h : Sub M nx N a b x) (h' : Sub M x N' b c y) (hab : a ≤ b) (hbc : b ≤ c) : Sub M nx (fun j => N j ∨ N' j) a c y where
  rng j hj := by
    rcases hj with hj | hj
    · have := h.rng j hj; omega
    · have := h'.rng j hj; omega
  in1 := h'.in1.imp_right h.lift
  in2 := h.lift h'.in2
  e1 e := h'.e1 (h.e1 e)
  e2 e := h'.e2 (h.e2 e)
  cl j hj := by
    rcases hj with hj | hj
    · obtain ⟨m, h1, h2⟩ := h.cl j hj
      exact ⟨m, h1, h2.mono (fun s hs => hs.mono (fun j hj => Or.inl hj))⟩
    · obtain ⟨m, h1, h2⟩ := h'.cl j hj
      exact ⟨m, h1, h2.mono (fun s hs => h.lift hs)⟩
  es e1 e2 j hj := by
    rcases hj with hj | hj
    · exact h.es e1 e2 j hj
    · exact h'.es (h.e2 e1) (h.e1 e2) j hj

/-- one state more, of which it goes on at its place to InX -/
structure BS (f : Bl) (c : Nat) : Prop where
  grow : ∀ st nx, st.length ≤ (f st nx).1.length ∧ (f st nx).1.take st.length = st
  few : ∀ st nx, (f st nx).1.length ≤ st.length + c
  xok : ∀ st nx, XOk st.length nx → XOk (f st nx).1.length (f st nx).2
  aok : ∀ st nx, XOk st.length nx → AllOk st → AllOk (f st nx).1
  sub : ∀ st nx, XOk st.length nx → ∀ M, Has M st.length (f st nx).1.length (f st nx).1 → ∃ N, Sub M nx N st.length (f st nx).1.length (f st nx).2

theorem BS.more {f : Bl} {c d : Nat} (h : BS f c) (hcd : c ≤ d) : BS f d := ⟨h.grow, fun st nx => by have := h.few st nx; omega, h.xok, h.aok, h.sub⟩
theorem BS.id : BS (fun st nx => (st, nx)) 0 where
  grow st nx := ⟨Nat.le_refl _, List.take_length⟩
  few st nx := Nat.le_refl _
  xok st nx h := h
  aok st nx _ h := h
  sub st nx h M hM := ⟨_, Sub.refl M nx st.length⟩

theorem BS.comp {f g : Bl} {c d : Nat} (hf : BS f c) (hg : BS g d) : BS (fun st nx => f (g st nx).1 (g st nx).2) (d + c) where
  grow st nx := by
    have a := hg.grow st nx
    have b := hf.grow (g st nx).1 (g st nx).2
    exact ⟨by omega, take_take a.2 b.2 a.1⟩
  few st nx := by
    have a := hg.few st nx
    have b := hf.few (g st nx).1 (g st nx).2
    show (f (g st nx).1 (g st nx).2).1.length ≤ _
    omega
  xok st nx h := hf.xok _ _ (hg.xok _ _ h)
  aok st nx h ha := hf.aok _ _ (hg.xok _ _ h) (hg.aok _ _ h ha)
  sub st nx h M hM := by
    have a := hg.grow st nx
    have b := hf.grow (g st nx).1 (g st nx).2
    obtain ⟨N, hN⟩ := hg.sub st nx h M (hM.left b.2 b.1)
    obtain ⟨N', hN'⟩ := hf.sub (g st nx).1 (g st nx).2 (hg.xok _ _ h) M (hM.right a.1)
    exact ⟨_, hN.trans hN' a.1 b.1⟩

theorem get_snoc (st : List MS) (m : MS) : (st ++ [m])[st.length]? = some m := by simp
theorem Has.at {M st : List MS} {a b j : Nat} (h : Has M a b st) {m : MS} (h1 : a ≤ j) (h2 : j < b) (hm : st[j]? = some m) : M[j]? = some m := (h j h1 h2).trans hm

theorem BS.take (sp : Spans) (fo nt : Bool) : BS (fun st nx => (st ++ [takeS sp fo nt nx.2], ((st.length : Int), (st.length : Int)))) 1 where
  grow st nx := ⟨by simp, by simp⟩
  few st nx := by simp
  xok st nx h := by unfold XOk; simp; omega
  aok st nx h ha := ha.snoc (by unfold XOk at h; unfold SOk takeS; simp only; omega)
  sub st nx h M hM := by
    have hm : M[st.length]? = some (takeS sp fo nt nx.2) := hM.at (Nat.le_refl _) (by simp) (get_snoc _ _)
    have hE : Ends M (st.length : Int) := Ends.stop _ _ hm ⟨by simp [takeS], by simp [takeS], by simp [takeS]⟩
    exact ⟨fun j => j = st.length, ⟨fun j hj => by subst hj; simp, Or.inr (Or.inl ⟨_, rfl, rfl⟩), Or.inl ⟨_, rfl, rfl⟩, fun _ => Or.inr hE, fun _ => hE, fun j hj => by
      subst hj; exact ⟨_, hm, fun _ => Or.inr (Or.inl rfl), fun h => by simp [takeS] at h⟩, fun _ _ j hj => by subst hj; exact hE⟩⟩

theorem BS.lead (s : Int → MS) (hk : ∀ n, (s n).kind = 2 ∨ (s n).kind = 3) (hn : ∀ n, (s n).next = n ∧ (s n).other = 0) : BS (bLead s) 2 where
  grow st nx := by
    unfold bLead
    split
    · exact ⟨by simp, by simp⟩
    · split
      · exact ⟨by simp, by simp⟩
      · exact ⟨by simp, by simp⟩
  few st nx := by
    unfold bLead
    split
    · simp
    · split
      · simp
      · simp
  xok st nx h := by
    unfold XOk at h
    unfold bLead
    split
    · unfold XOk; simp; omega
    · split
      · unfold XOk; simp; omega
      · unfold XOk; simp; omega
  aok st nx h ha := by
    have h1 := hn nx.2
    have h2 := hn nx.1
    unfold XOk at h
    have a1 : AllOk (st ++ [s nx.2]) := ha.snoc (by unfold SOk; rw [h1.1, h1.2]; omega)
    unfold bLead
    split
    · exact a1
    · split
      · exact a1
      · exact a1.snoc (by unfold SOk; rw [h2.1, h2.2]; simp; omega)
  sub st nx h M hM := by
    have hk2 := hk nx.2
    have hk1 := hk nx.1
    have hn2 := hn nx.2
    have hn1 := hn nx.1
    unfold bLead at hM ⊢
    by_cases c1 : nx.1 = nx.2
    · rw [if_pos c1] at hM ⊢
      have hm : M[st.length]? = some (s nx.2) := hM.at (Nat.le_refl _) (by simp) (get_snoc _ _)
      have hE : Ends M nx.2 → Ends M (st.length : Int) := fun e => Ends.one _ _ hm hk2 (by rw [hn2.1]; exact e)
      have h0 : nx.1 ≠ -1 := by unfold XOk at h; omega
      exact ⟨fun j => j = st.length, ⟨fun j hj => by subst hj; simp, Or.inr (Or.inl ⟨_, rfl, rfl⟩), Or.inl ⟨_, rfl, rfl⟩, fun e => Or.inr (hE (c1 ▸ e.ends h0)), hE, fun j hj => by
        subst hj; exact ⟨_, hm, fun _ => Or.inr (Or.inl hn2.1), fun h => by rcases hk2 with e | e <;> omega⟩, fun e _ j hj => by subst hj; exact hE e⟩⟩
    · rw [if_neg c1] at hM ⊢
      by_cases c2 : nx.1 = -1
      · rw [if_pos c2] at hM ⊢
        have hm : M[st.length]? = some (s nx.2) := hM.at (Nat.le_refl _) (by simp) (get_snoc _ _)
        have hE : Ends M nx.2 → Ends M (st.length : Int) := fun e => Ends.one _ _ hm hk2 (by rw [hn2.1]; exact e)
        exact ⟨fun j => j = st.length, ⟨fun j hj => by subst hj; simp, Or.inl rfl, Or.inl ⟨_, rfl, rfl⟩, fun e => Or.inl rfl, hE, fun j hj => by
          subst hj; exact ⟨_, hm, fun _ => Or.inr (Or.inl hn2.1), fun h => by rcases hk2 with e | e <;> omega⟩, fun e _ j hj => by subst hj; exact hE e⟩⟩
      · rw [if_neg c2] at hM ⊢
        have hm : M[st.length]? = some (s nx.2) := hM.at (Nat.le_refl _) (by simp) (by simp)
        have hm' : M[st.length + 1]? = some (s nx.1) := hM.at (by omega) (by simp) (by
          have := get_snoc (st ++ [s nx.2]) (s nx.1)
          rw [List.length_append] at this
          exact this)
        have hE : Ends M nx.2 → Ends M (st.length : Int) := fun e => Ends.one _ _ hm hk2 (by rw [hn2.1]; exact e)
        have hE' : EndsO M nx.1 → Ends M ((st.length + 1 : Nat) : Int) := fun e => Ends.one _ _ hm' hk1 (by rw [hn1.1]; exact e.ends c2)
        exact ⟨fun j => j = st.length ∨ j = st.length + 1, ⟨fun j hj => by simp; omega, Or.inr (Or.inl ⟨st.length + 1, by simp, Or.inr rfl⟩), Or.inl ⟨_, rfl, Or.inl rfl⟩, fun e => Or.inr (by have := hE' e; simpa using this), hE, fun j hj => by
          rcases hj with rfl | rfl
          · exact ⟨_, hm, fun _ => Or.inr (Or.inl hn2.1), fun h => by rcases hk2 with e | e <;> omega⟩
          · exact ⟨_, hm', fun _ => Or.inr (Or.inr ⟨hn1.1, c2⟩), fun h => by rcases hk1 with e | e <;> omega⟩, fun e e' j hj => by
          rcases hj with rfl | rfl
          · exact hE e
          · exact hE' e'⟩⟩

theorem forkOne_grow (st : List MS) (a b : Int) : st.length ≤ (bForkOne st a b).1.length ∧ (bForkOne st a b).1.take st.length = st ∧ (bForkOne st a b).1.length ≤ st.length + 1 := by
  unfold bForkOne
  split
  · exact ⟨Nat.le_refl _, List.take_length, by simp⟩
  · split
    · exact ⟨Nat.le_refl _, List.take_length, by simp⟩
    · exact ⟨by simp, by simp, by simp⟩
theorem forkOne_ok {st : List MS} {a b : Int} (ha : -1 ≤ a ∧ a < st.length) (hb : -1 ≤ b ∧ b < st.length) : -1 ≤ (bForkOne st a b).2 ∧ (bForkOne st a b).2 < (bForkOne st a b).1.length ∧ ((a ≠ -1 ∨ b ≠ -1) → (bForkOne st a b).2 ≠ -1) ∧ (AllOk st → AllOk (bForkOne st a b).1) := by
  unfold bForkOne
  split
  · exact ⟨hb.1, hb.2, fun h => by rcases h with h | h <;> omega, fun h => h⟩
  · split
    · exact ⟨ha.1, ha.2, fun h => by rcases h with h | h <;> omega, fun h => h⟩
    · exact ⟨by simp only; omega, by simp only [List.length_append, List.length_cons, List.length_nil]; omega, fun _ => by simp only; omega, fun h => h.snoc (by unfold SOk forkS; simp only; omega)⟩
theorem forkOne_sub {M st : List MS} {nx : Ex} {N : Nat → Prop} {a b : Int} (hM : Has M st.length (bForkOne st a b).1.length (bForkOne st a b).1) (ha : a = -1 ∨ InX N nx a) (hb : b = -1 ∨ InX N nx b) :
    ∃ N' : Nat → Prop, (∀ j, N' j → st.length ≤ j ∧ j < (bForkOne st a b).1.length) ∧ ((bForkOne st a b).2 = -1 ∨ InX (fun j => N j ∨ N' j) nx (bForkOne st a b).2) ∧ (InX N nx a → InX N nx b → InX (fun j => N j ∨ N' j) nx (bForkOne st a b).2) ∧
      (EndsO M a → EndsO M b → EndsO M (bForkOne st a b).2) ∧ (∀ j, N' j → ∃ m, M[j]? = some m ∧ Succs (InX N nx) m) ∧ (EndsO M a → EndsO M b → ∀ j : Nat, N' j → Ends M j) := by
  unfold bForkOne at *
  by_cases c1 : a = -1
  · simp only [if_pos c1] at hM ⊢
    exact ⟨fun _ => False, fun j h => h.elim, hb.imp_right (fun h => h.mono (fun j hj => Or.inl hj)), fun _ h => h.mono (fun j hj => Or.inl hj), fun _ h => h, fun j h => h.elim, fun _ _ j h => h.elim⟩
  · simp only [if_neg c1] at hM ⊢
    by_cases c2 : b = -1
    · simp only [if_pos c2] at hM ⊢
      exact ⟨fun _ => False, fun j h => h.elim, ha.imp_right (fun h => h.mono (fun j hj => Or.inl hj)), fun h _ => h.mono (fun j hj => Or.inl hj), fun h _ => h, fun j h => h.elim, fun _ _ j h => h.elim⟩
    · simp only [if_neg c2] at hM ⊢
      have hm : M[st.length]? = some (forkS a b) := hM.at (Nat.le_refl _) (by simp) (get_snoc _ _)
      have hE : EndsO M a → EndsO M b → Ends M (st.length : Int) := fun e e' => Ends.two _ _ hm rfl (e.ends c1) (e'.ends c2)
      have hi : InX (fun j => N j ∨ j = st.length) nx (st.length : Int) := Or.inl ⟨_, rfl, Or.inr rfl⟩
      exact ⟨fun j => j = st.length, fun j h => by subst h; simp, Or.inr hi, fun _ _ => hi, fun e e' => Or.inr (hE e e'), fun j h => by
        subst h; exact ⟨_, hm, fun _ => ha.resolve_left c1, fun _ => hb.resolve_left c2⟩, fun e e' j h => by subst h; exact hE e e'⟩

theorem fork_grow (st : List MS) (f s : Ex) : st.length ≤ (bFork st f s).1.length ∧ (bFork st f s).1.take st.length = st ∧ (bFork st f s).1.length ≤ st.length + 2 := by
  have h1 := forkOne_grow st f.2 s.2
  unfold bFork
  split
  · exact ⟨h1.1, h1.2.1, by simp only; omega⟩
  · have h2 := forkOne_grow (bForkOne st f.2 s.2).1 f.1 s.1
    exact ⟨by simp only; omega, take_take h1.2.1 h2.2.1 h1.1, by simp only; omega⟩
theorem fork_ok {st : List MS} {f s : Ex} (hf : (-1 ≤ f.2 ∧ f.2 < st.length) ∧ (-1 ≤ f.1 ∧ f.1 < st.length)) (hs : (-1 ≤ s.2 ∧ s.2 < st.length) ∧ (-1 ≤ s.1 ∧ s.1 < st.length)) (hne : f.2 ≠ -1 ∨ s.2 ≠ -1) :
    XOk (bFork st f s).1.length (bFork st f s).2 ∧ (AllOk st → AllOk (bFork st f s).1) := by
  have h1 := forkOne_ok hf.1 hs.1
  have g1 := forkOne_grow st f.2 s.2
  have hv := h1.2.2.1 hne
  unfold bFork
  split
  · exact ⟨⟨by simp only; omega, by simp only; omega⟩, h1.2.2.2⟩
  · have h2 := forkOne_ok (st := (bForkOne st f.2 s.2).1) (a := f.1) (b := s.1) (by omega) (by omega)
    have g2 := forkOne_grow (bForkOne st f.2 s.2).1 f.1 s.1
    exact ⟨⟨by simp only; omega, by simp only; omega⟩, fun h => h2.2.2.2 (h1.2.2.2 h)⟩

/-- two beginnings, both of which go on to nx, and the choice between them -/
theorem fork_sub {M st : List MS} {nx : Ex} {N N' : Nat → Prop} {a b a' b' c0 : Nat} {f s : Ex} (hf : Sub M nx N a b f) (hs : Sub M nx N' a' b' s) (h0 : c0 ≤ st.length) (h0a : c0 ≤ a) (h0b : c0 ≤ a') (hab : b ≤ st.length) (hbc : b' ≤ st.length)
    (hM : Has M st.length (bFork st f s).1.length (bFork st f s).1) : ∃ K, Sub M nx K c0 (bFork st f s).1.length (bFork st f s).2 := by
  have lf : ∀ {t : Int}, InX N nx t → InX (fun j => N j ∨ N' j) nx t := fun h => h.mono (fun j hj => Or.inl hj)
  have ls : ∀ {t : Int}, InX N' nx t → InX (fun j => N j ∨ N' j) nx t := fun h => h.mono (fun j hj => Or.inr hj)
  have g1 := forkOne_grow st f.2 s.2
  have old : ∀ (K : Nat → Prop) j, N j ∨ N' j → ∃ m, M[j]? = some m ∧ Succs (InX (fun j => (N j ∨ N' j) ∨ K j) nx) m := by
    intro K j hj
    rcases hj with hj | hj
    · obtain ⟨m, h1, h2⟩ := hf.cl j hj
      exact ⟨m, h1, h2.mono (fun t ht => (lf ht).mono (fun j hj => Or.inl hj))⟩
    · obtain ⟨m, h1, h2⟩ := hs.cl j hj
      exact ⟨m, h1, h2.mono (fun t ht => (ls ht).mono (fun j hj => Or.inl hj))⟩
  unfold bFork at hM ⊢
  by_cases c : f.1 = f.2 ∧ s.1 = s.2
  · rw [if_pos c] at hM ⊢
    obtain ⟨K, k1, k2, k3, k4, k5, k6⟩ := forkOne_sub (N := fun j => N j ∨ N' j) (nx := nx) hM (Or.inr (lf hf.in2)) (Or.inr (ls hs.in2))
    have hin := k3 (lf hf.in2) (ls hs.in2)
    have hend : Ends M nx.2 → Ends M (bForkOne st f.2 s.2).2 := fun e => by
      have hx := k4 (Or.inr (hf.e2 e)) (Or.inr (hs.e2 e))
      rcases hx with hx | hx
      · exfalso
        have h0 := (hf.e2 e).nonneg
        have h1 := (hs.e2 e).nonneg
        unfold bForkOne at hx
        rw [if_neg (by omega), if_neg (by omega)] at hx
        simp only at hx
        omega
      · exact hx
    refine ⟨fun j => (N j ∨ N' j) ∨ K j, ⟨fun j hj => ?_, Or.inr hin, hin, fun e => ?_, hend, fun j hj => ?_, fun e e' j hj => ?_⟩⟩
    · rcases hj with (hj | hj) | hj
      · have := hf.rng j hj; simp only; omega
      · have := hs.rng j hj; simp only; omega
      · have := k1 j hj; simp only; omega
    · exact k4 (c.1 ▸ hf.e1 e) (c.2 ▸ hs.e1 e)
    · rcases hj with hj | hj
      · exact old K j hj
      · obtain ⟨m, h1, h2⟩ := k5 j hj
        exact ⟨m, h1, h2.mono (fun t ht => ht.mono (fun j hj => Or.inl hj))⟩
    · rcases hj with (hj | hj) | hj
      · exact hf.es e e' j hj
      · exact hs.es e e' j hj
      · exact k6 (Or.inr (hf.e2 e)) (Or.inr (hs.e2 e)) j hj
  · rw [if_neg c] at hM ⊢
    have g2 := forkOne_grow (bForkOne st f.2 s.2).1 f.1 s.1
    have hM1 : Has M st.length (bForkOne st f.2 s.2).1.length (bForkOne st f.2 s.2).1 := hM.left g2.2.1 g2.1
    have hM2 := hM.right (a := (bForkOne st f.2 s.2).1) g1.1
    obtain ⟨K, k1, k2, k3, k4, k5, k6⟩ := forkOne_sub (N := fun j => N j ∨ N' j) (nx := nx) hM1 (Or.inr (lf hf.in2)) (Or.inr (ls hs.in2))
    obtain ⟨J, j1, j2, j3, j4, j5, j6⟩ := forkOne_sub (N := fun j => N j ∨ N' j) (nx := nx) hM2 (hf.in1.imp_right lf) (hs.in1.imp_right ls)
    have hin := k3 (lf hf.in2) (ls hs.in2)
    have hend : Ends M nx.2 → Ends M (bForkOne st f.2 s.2).2 := fun e => by
      have hx := k4 (Or.inr (hf.e2 e)) (Or.inr (hs.e2 e))
      rcases hx with hx | hx
      · exfalso
        have h0 := (hf.e2 e).nonneg
        have h1 := (hs.e2 e).nonneg
        unfold bForkOne at hx
        rw [if_neg (by omega), if_neg (by omega)] at hx
        simp only at hx
        omega
      · exact hx
    refine ⟨fun j => (N j ∨ N' j) ∨ (K j ∨ J j), ⟨fun j hj => ?_, ?_, ?_, fun e => j4 (hf.e1 e) (hs.e1 e), hend, fun j hj => ?_, fun e e' j hj => ?_⟩⟩
    · rcases hj with (hj | hj) | (hj | hj)
      · have := hf.rng j hj; simp only; omega
      · have := hs.rng j hj; simp only; omega
      · have := k1 j hj; simp only; omega
      · have := j1 j hj; simp only; omega
    · exact j2.imp_right (fun h => h.mono (fun j hj => hj.imp_right Or.inr))
    · exact hin.mono (fun j hj => hj.imp_right Or.inl)
    · rcases hj with hj | (hj | hj)
      · exact old _ j hj
      · obtain ⟨m, h1, h2⟩ := k5 j hj
        exact ⟨m, h1, h2.mono (fun t ht => ht.mono (fun j hj => Or.inl hj))⟩
      · obtain ⟨m, h1, h2⟩ := j5 j hj
        exact ⟨m, h1, h2.mono (fun t ht => ht.mono (fun j hj => Or.inl hj))⟩
    · rcases hj with (hj | hj) | (hj | hj)
      · exact hf.es e e' j hj
      · exact hs.es e e' j hj
      · exact k6 (Or.inr (hf.e2 e)) (Or.inr (hs.e2 e)) j hj
      · exact j6 (hf.e1 e') (hs.e1 e') j hj

theorem either_grow (lz : Bool) (st : List MS) (f s : Ex) : st.length ≤ (bEither lz st f s).1.length ∧ (bEither lz st f s).1.take st.length = st ∧ (bEither lz st f s).1.length ≤ st.length + 2 := by
  unfold bEither
  cases lz
  · exact fork_grow st f s
  · exact fork_grow st s f
theorem either_ok {st : List MS} (lz : Bool) {f s : Ex} (hf : (-1 ≤ f.2 ∧ f.2 < st.length) ∧ (-1 ≤ f.1 ∧ f.1 < st.length)) (hs : (-1 ≤ s.2 ∧ s.2 < st.length) ∧ (-1 ≤ s.1 ∧ s.1 < st.length)) (hne : f.2 ≠ -1 ∨ s.2 ≠ -1) :
    XOk (bEither lz st f s).1.length (bEither lz st f s).2 ∧ (AllOk st → AllOk (bEither lz st f s).1) := by
  unfold bEither
  cases lz
  · exact fork_ok hf hs hne
  · exact fork_ok hs hf hne.symm
theorem either_sub {M st : List MS} {nx : Ex} {N N' : Nat → Prop} {a b a' b' c0 : Nat} {f s : Ex} (lz : Bool) (hf : Sub M nx N a b f) (hs : Sub M nx N' a' b' s) (h0 : c0 ≤ st.length) (h0a : c0 ≤ a) (h0b : c0 ≤ a') (hab : b ≤ st.length) (hbc : b' ≤ st.length)
    (hM : Has M st.length (bEither lz st f s).1.length (bEither lz st f s).1) : ∃ K, Sub M nx K c0 (bEither lz st f s).1.length (bEither lz st f s).2 := by
  unfold bEither at *
  cases lz
  · exact fork_sub hf hs h0 h0a h0b hab hbc hM
  · exact fork_sub hs hf h0 h0b h0a hbc hab hM
theorem XOk.pair {n : Nat} {x : Ex} (h : XOk n x) : (-1 ≤ x.2 ∧ x.2 < n) ∧ (-1 ≤ x.1 ∧ x.1 < n) := by unfold XOk at h; omega

/-- the choice of two pieces that go on to the same -/
theorem BS.alt {f g : Bl} {c d : Nat} (hf : BS f c) (hg : BS g d) : BS (fun st nx => bFork (f (g st nx).1 nx).1 (f (g st nx).1 nx).2 (g st nx).2) (d + c + 2) where
  grow st nx := by
    have a := hg.grow st nx
    have b := hf.grow (g st nx).1 nx
    have e := fork_grow (f (g st nx).1 nx).1 (f (g st nx).1 nx).2 (g st nx).2
    exact ⟨by omega, take_take (take_take a.2 b.2 a.1) e.2.1 (by omega)⟩
  few st nx := by
    have a := hg.few st nx
    have b := hf.few (g st nx).1 nx
    have e := fork_grow (f (g st nx).1 nx).1 (f (g st nx).1 nx).2 (g st nx).2
    omega
  xok st nx h := by
    have a := hg.grow st nx
    have b := hf.grow (g st nx).1 nx
    have x1 := hg.xok st nx h
    have x2 := hf.xok (g st nx).1 nx (h.mono a.1)
    exact (fork_ok x2.pair (x1.mono b.1).pair (Or.inl (by have := x2.1; omega))).1
  aok st nx h ha := by
    have a := hg.grow st nx
    have b := hf.grow (g st nx).1 nx
    have x1 := hg.xok st nx h
    have x2 := hf.xok (g st nx).1 nx (h.mono a.1)
    exact (fork_ok x2.pair (x1.mono b.1).pair (Or.inl (by have := x2.1; omega))).2 (hf.aok _ _ (h.mono a.1) (hg.aok _ _ h ha))
  sub st nx h M hM := by
    have a := hg.grow st nx
    have b := hf.grow (g st nx).1 nx
    have e := fork_grow (f (g st nx).1 nx).1 (f (g st nx).1 nx).2 (g st nx).2
    have hM1 : Has M st.length (f (g st nx).1 nx).1.length (f (g st nx).1 nx).1 := hM.left e.2.1 e.1
    obtain ⟨N, hN⟩ := hg.sub st nx h M (hM1.left b.2 b.1)
    obtain ⟨N', hN'⟩ := hf.sub (g st nx).1 nx (h.mono a.1) M (hM1.right a.1)
    exact fork_sub hN' hN (by omega) a.1 (Nat.le_refl _) (Nat.le_refl _) b.1 (hM.right (by omega))

theorem BS.reps {f : Bl} {c : Nat} (hf : BS f c) : ∀ m, BS (bReps f m) (m * c)
  | 0 => by rw [Nat.zero_mul]; exact BS.id
  | m + 1 => by
    have := (BS.reps hf m).comp hf
    exact this.more (by rw [Nat.succ_mul]; omega)

/-- m times more: each within the one ahead of it -/
structure BO (lz : Bool) (part : Bl) (m : Nat) (c : Nat) : Prop where
  grow : ∀ nx st all, st.length ≤ (bOpts part lz nx m st all).1.length ∧ (bOpts part lz nx m st all).1.take st.length = st
  few : ∀ nx st all, (bOpts part lz nx m st all).1.length ≤ st.length + c
  xok : ∀ nx st all, XOk st.length nx → XOk st.length all → XOk (bOpts part lz nx m st all).1.length (bOpts part lz nx m st all).2
  aok : ∀ nx st all, XOk st.length nx → XOk st.length all → AllOk st → AllOk (bOpts part lz nx m st all).1
  sub : ∀ nx st all, XOk st.length nx → XOk st.length all → ∀ M, Has M st.length (bOpts part lz nx m st all).1.length (bOpts part lz nx m st all).1 → ∀ a N, a ≤ st.length → Sub M nx N a st.length all → ∃ N', Sub M nx N' a (bOpts part lz nx m st all).1.length (bOpts part lz nx m st all).2
theorem BS.opts {f : Bl} {c : Nat} (lz : Bool) (hf : BS f c) : ∀ m, BO lz f m (m * (c + 2))
  | 0 => ⟨fun nx st all => ⟨Nat.le_refl _, List.take_length⟩, fun nx st all => by simp [bOpts], fun nx st all _ h => h, fun nx st all _ _ h => h, fun nx st all _ _ M _ a N _ h => ⟨N, h⟩⟩
  | m + 1 => by
    have ih := BS.opts lz hf m
    refine ⟨fun nx st all => ?_, fun nx st all => ?_, fun nx st all hn ha => ?_, fun nx st all hn ha hA => ?_, fun nx st all hn ha M hM a N hle hN => ?_⟩
    · have g1 := hf.grow st all
      have g2 := either_grow lz (f st all).1 (f st all).2 nx
      have g3 := ih.grow nx (bEither lz (f st all).1 (f st all).2 nx).1 (bEither lz (f st all).1 (f st all).2 nx).2
      exact ⟨by unfold bOpts; omega, take_take (take_take g1.2 g2.2.1 g1.1) g3.2 (by omega)⟩
    · have g1 := hf.few st all
      have g2 := either_grow lz (f st all).1 (f st all).2 nx
      have g3 := ih.few nx (bEither lz (f st all).1 (f st all).2 nx).1 (bEither lz (f st all).1 (f st all).2 nx).2
      rw [Nat.succ_mul]
      unfold bOpts
      omega
    · have g1 := hf.grow st all
      have g2 := either_grow lz (f st all).1 (f st all).2 nx
      have x2 := hf.xok st all ha
      have x3 := either_ok lz x2.pair (hn.mono g1.1).pair (Or.inl (by have := x2.1; omega))
      exact ih.xok nx _ _ (hn.mono (by omega)) x3.1
    · have g1 := hf.grow st all
      have g2 := either_grow lz (f st all).1 (f st all).2 nx
      have x2 := hf.xok st all ha
      have x3 := either_ok lz x2.pair (hn.mono g1.1).pair (Or.inl (by have := x2.1; omega))
      exact ih.aok nx _ _ (hn.mono (by omega)) x3.1 (x3.2 (hf.aok _ _ ha hA))
    · have g1 := hf.grow st all
      have g2 := either_grow lz (f st all).1 (f st all).2 nx
      have g3 := ih.grow nx (bEither lz (f st all).1 (f st all).2 nx).1 (bEither lz (f st all).1 (f st all).2 nx).2
      have x2 := hf.xok st all ha
      have x3 := either_ok lz x2.pair (hn.mono g1.1).pair (Or.inl (by have := x2.1; omega))
      have hM2 : Has M st.length (bEither lz (f st all).1 (f st all).2 nx).1.length (bEither lz (f st all).1 (f st all).2 nx).1 := Has.left hM g3.2 g3.1
      obtain ⟨N1, h1⟩ := hf.sub st all ha M (hM2.left g2.2.1 g2.1)
      obtain ⟨K, hK⟩ := either_sub lz (hN.trans h1 hle g1.1) (Sub.refl M nx a) (by omega) (Nat.le_refl _) (Nat.le_refl _) (Nat.le_refl _) (by omega) (hM2.right g1.1)
      exact ih.sub nx _ _ (hn.mono (by omega)) x3.1 M (Has.right hM (by omega)) a K (by omega) hK
theorem BO.bs {f : Bl} {lz : Bool} {m c : Nat} (h : BO lz f m c) : BS (fun st nx => bOpts f lz nx m st nx) c where
  grow st nx := h.grow nx st nx
  few st nx := h.few nx st nx
  xok st nx hx := h.xok nx st nx hx hx
  aok st nx hx ha := h.aok nx st nx hx hx ha
  sub st nx hx M hM := h.sub nx st nx hx hx M hM st.length _ (Nat.le_refl _) (Sub.refl M nx st.length)

theorem either_none (lz : Bool) (st : List MS) (nx : Ex) : bEither lz st (-1, -1) nx = (st, nx) := by
  obtain ⟨a, b⟩ := nx
  unfold bEither bFork bForkOne
  by_cases h : a = b
  · subst h; by_cases h2 : a = -1 <;> cases lz <;> simp [h2]
  · by_cases h2 : a = -1 <;> by_cases h3 : b = -1 <;> cases lz <;> simp [h, h2, h3] <;> omega
theorem either_moved (lz : Bool) (st : List MS) {t : Int} {nx : Ex} (ht : t ≠ -1) (hn : nx.2 ≠ -1) : (bEither lz st (t, t) nx).2.2 = st.length ∧ (bEither lz st (t, t) nx).1[st.length]? = some (if lz then forkS nx.2 t else forkS t nx.2) := by
  cases lz
  · have h1 : bForkOne st t nx.2 = (st ++ [forkS t nx.2], (st.length : Int)) := by unfold bForkOne; rw [if_neg ht, if_neg hn]
    simp only [bEither, Bool.false_eq_true, if_false]
    unfold bFork
    simp only
    rw [h1]
    split
    · exact ⟨rfl, by simp⟩
    · have g := forkOne_grow (st ++ [forkS t nx.2]) t nx.1
      exact ⟨rfl, (get_grow g.2.1 (by simp)).trans (by simp)⟩
  · have h1 : bForkOne st nx.2 t = (st ++ [forkS nx.2 t], (st.length : Int)) := by unfold bForkOne; rw [if_neg hn, if_neg ht]
    simp only [bEither, if_true]
    unfold bFork
    simp only
    rw [h1]
    split
    · exact ⟨rfl, by simp⟩
    · have g := forkOne_grow (st ++ [forkS nx.2 t]) nx.1 t
      exact ⟨rfl, (get_grow g.2.1 (by simp)).trans (by simp)⟩

theorem BS.loop {f : Bl} {c : Nat} (lz : Bool) (hf : BS f c) : BS (bLoop f lz) (c + 3) where
  grow st nx := by
    have g1 := hf.grow (st ++ [zeroS]) (-1, st.length)
    have g2 := either_grow lz (f (st ++ [zeroS]) (-1, st.length)).1 ((f (st ++ [zeroS]) (-1, st.length)).2.1, (f (st ++ [zeroS]) (-1, st.length)).2.1) nx
    have g0 : (st ++ [zeroS]).take st.length = st := by simp
    have hl : (st ++ [zeroS]).length = st.length + 1 := by simp
    rw [hl] at g1
    unfold bLoop bLoop0
    refine ⟨by simp only [List.length_set]; omega, ?_⟩
    have e1 : (f (st ++ [zeroS]) (-1, st.length)).1.take st.length = st := take_take g0 (by rw [hl]; exact g1.2) (by simp)
    have e2 := take_take e1 g2.2.1 (by omega)
    simp only
    rw [List.take_set, List.set_eq_of_length_le (by simp; omega)]
    exact e2
  few st nx := by
    have g1 := hf.few (st ++ [zeroS]) (-1, st.length)
    have g2 := either_grow lz (f (st ++ [zeroS]) (-1, st.length)).1 ((f (st ++ [zeroS]) (-1, st.length)).2.1, (f (st ++ [zeroS]) (-1, st.length)).2.1) nx
    have hl : (st ++ [zeroS]).length = st.length + 1 := by simp
    unfold bLoop bLoop0
    simp only [List.length_set]
    omega
  xok st nx h := by
    have hl : (st ++ [zeroS]).length = st.length + 1 := by simp
    have x1 := hf.xok (st ++ [zeroS]) (-1, st.length) (by rw [hl]; unfold XOk; simp only; omega)
    have g1 := hf.grow (st ++ [zeroS]) (-1, st.length)
    have x2 := x1.2
    have x3 := either_ok (st := (f (st ++ [zeroS]) (-1, st.length)).1) lz (f := ((f (st ++ [zeroS]) (-1, st.length)).2.1, (f (st ++ [zeroS]) (-1, st.length)).2.1)) ⟨x2, x2⟩ (h.mono (by omega)).pair (Or.inr (by have := h.1; omega))
    unfold bLoop bLoop0
    simp only [List.length_set]
    exact x3.1
  aok st nx h ha := by
    have hl : (st ++ [zeroS]).length = st.length + 1 := by simp
    have hx : XOk (st ++ [zeroS]).length (-1, (st.length : Int)) := by rw [hl]; unfold XOk; simp only; omega
    have x1 := hf.xok (st ++ [zeroS]) (-1, st.length) hx
    have a1 := hf.aok (st ++ [zeroS]) (-1, st.length) hx (ha.snoc (by unfold SOk zeroS; simp only; omega))
    have g1 := hf.grow (st ++ [zeroS]) (-1, st.length)
    have x2 := x1.2
    have x3 := either_ok (st := (f (st ++ [zeroS]) (-1, st.length)).1) lz (f := ((f (st ++ [zeroS]) (-1, st.length)).2.1, (f (st ++ [zeroS]) (-1, st.length)).2.1)) ⟨x2, x2⟩ (h.mono (by omega)).pair (Or.inr (by have := h.1; omega))
    have a3 := x3.2 a1
    unfold bLoop bLoop0
    intro m hm
    simp only [List.length_set] at hm ⊢
    rcases List.mem_or_eq_of_mem_set hm with h1 | h1
    · exact a3 m h1
    · subst h1
      have hlt : (bEither lz (f (st ++ [zeroS]) (-1, st.length)).1 ((f (st ++ [zeroS]) (-1, st.length)).2.1, (f (st ++ [zeroS]) (-1, st.length)).2.1) nx).2.2.toNat < (bEither lz (f (st ++ [zeroS]) (-1, st.length)).1 ((f (st ++ [zeroS]) (-1, st.length)).2.1, (f (st ++ [zeroS]) (-1, st.length)).2.1) nx).1.length := by
        have := x3.1.1; omega
      rw [List.getD_eq_getElem?_getD, List.getElem?_eq_getElem hlt]
      exact a3 _ (List.getElem_mem hlt)
  sub st nx h M hM := by
    have hl : (st ++ [zeroS]).length = st.length + 1 := by simp
    have hx : XOk (st ++ [zeroS]).length (-1, (st.length : Int)) := by rw [hl]; unfold XOk; simp only; omega
    have g1 := hf.grow (st ++ [zeroS]) (-1, st.length)
    have x1 := hf.xok (st ++ [zeroS]) (-1, st.length) hx
    have sub1 := hf.sub (st ++ [zeroS]) (-1, st.length) hx M
    unfold bLoop bLoop0 at hM ⊢
    generalize hP : f (st ++ [zeroS]) (-1, st.length) = P at *
    obtain ⟨S, t, u⟩ := P
    simp only [List.length_set] at hM g1 x1 sub1 ⊢
    have g2 := either_grow lz S (t, t) nx
    have n2 : nx.2 ≠ -1 := by have := h.1; omega
    by_cases ht : t = -1
    · subst ht
      rw [either_none] at hM ⊢
      refine ⟨fun _ => False, ?_⟩
      have := Sub.refl M nx st.length
      exact ⟨fun j hj => hj.elim, this.in1, this.in2, this.e1, this.e2, this.cl, this.es⟩
    · have em := either_moved lz S (t := t) (nx := nx) ht n2
      generalize hE : bEither lz S (t, t) nx = E at *
      have hget : E.1.getD E.2.2.toNat zeroS = (if lz then forkS nx.2 t else forkS t nx.2) := by
        rw [em.1, Int.toNat_natCast, List.getD_eq_getElem?_getD, em.2]
        rfl
      rw [hget] at hM
      have hA : M[st.length]? = some (if lz then forkS nx.2 t else forkS t nx.2) := by
        rw [hM st.length (Nat.le_refl _) (by omega)]
        exact List.getElem?_set_self (by omega)
      have hM' : Has M (st.length + 1) E.1.length E.1 := fun j h1 h2 => by
        rw [hM j (by omega) h2, List.getElem?_set_ne (by omega)]
      obtain ⟨N, hN⟩ := sub1 (by rw [hl]; exact Has.left hM' g2.2.1 g2.1)
      rw [hl] at hN
      have ht1 : Ends M t := (hN.e1 (Or.inl rfl)).ends ht
      have hAE : Ends M nx.2 → Ends M (st.length : Int) := fun e => by
        cases lz
        · exact Ends.two _ _ hA rfl ht1 e
        · exact Ends.two _ _ hA rfl e ht1
      have lift : ∀ {s : Int}, InX N (-1, (st.length : Int)) s → InX (fun j => N j ∨ j = st.length) nx s := by
        intro s hs
        rcases hs with ⟨j, h1, h2⟩ | h1 | ⟨h1, h2⟩
        · exact Or.inl ⟨j, h1, Or.inl h2⟩
        · exact Or.inl ⟨st.length, h1, Or.inr rfl⟩
        · exact absurd rfl h2
      have hin : InX (fun j => N j ∨ j = st.length) nx t := lift (hN.in1.resolve_left ht)
      have hT : Sub M nx (fun j => N j ∨ j = st.length) st.length S.length (t, t) := by
        refine ⟨fun j hj => ?_, Or.inr hin, hin, fun _ => Or.inr ht1, fun _ => ht1, fun j hj => ?_, fun e e' j hj => ?_⟩
        · rcases hj with hj | hj
          · have := hN.rng j hj; omega
          · omega
        · rcases hj with hj | rfl
          · obtain ⟨m, h1, h2⟩ := hN.cl j hj
            exact ⟨m, h1, h2.mono (fun s hs => lift hs)⟩
          · refine ⟨_, hA, ?_⟩
            have h2 : InX (fun j => N j ∨ j = st.length) nx nx.2 := Or.inr (Or.inl rfl)
            cases lz
            · exact ⟨fun _ => hin, fun _ => h2⟩
            · exact ⟨fun _ => h2, fun _ => hin⟩
        · rcases hj with hj | rfl
          · exact hN.es (hAE e) (Or.inl rfl) j hj
          · exact hAE e
      have := either_sub (st := S) lz hT (Sub.refl M nx st.length) (c0 := st.length) (by omega) (Nat.le_refl _) (Nat.le_refl _) (Nat.le_refl _) (by omega) (by rw [hE]; exact fun j h1 h2 => hM' j (by omega) h2)
      rw [hE] at this
      exact this

theorem BS.times {f : Bl} {c : Nat} (hf : BS f (4 * c)) (lo hi : Int) (lz : Bool) (h0 : 0 ≤ lo) (h1 : hi = -1 ∨ lo ≤ hi) : BS (bTimes f lo hi lz) (4 * ((if hi = -1 then lo + 1 else hi).toNat * (c + 1))) := by
  unfold bTimes
  by_cases e : hi = -1
  · simp only [e, if_true]
    refine ((hf.reps lo.toNat).comp (hf.loop lz)).more ?_
    have : (lo + 1).toNat = lo.toNat + 1 := by omega
    rw [this, Nat.add_mul, Nat.mul_add lo.toNat]
    have : lo.toNat * (4 * c) = 4 * (lo.toNat * c) := by rw [Nat.mul_left_comm]
    omega
  · simp only [e, if_false]
    refine ((hf.reps lo.toNat).comp (hf.opts lz (hi - lo).toNat).bs).more ?_
    have hle : lo ≤ hi := h1.resolve_left e
    obtain ⟨d, hd⟩ : ∃ d, hi.toNat = lo.toNat + d := ⟨(hi - lo).toNat, by omega⟩
    have : (hi - lo).toNat = d := by omega
    rw [this, hd, Nat.add_mul, Nat.mul_add lo.toNat, Nat.mul_add d c, Nat.mul_add d (4 * c)]
    have : lo.toNat * (4 * c) = 4 * (lo.toNat * c) := by rw [Nat.mul_left_comm]
    have : d * (4 * c) = 4 * (d * c) := by rw [Nat.mul_left_comm]
    omega

mutual
theorem CT.sz_nonneg : ∀ C : CT, C.ok → 0 ≤ C.sz
  | .node k sp fo nt ed gr lo hi lz kids, h => by
    unfold CT.ok at h
    obtain ⟨h1, h2, h3, h5, h6⟩ := h
    have hs := CT.szs_nonneg kids h6
    unfold CT.sz
    by_cases k0 : k = 0 ∨ k = 1 ∨ k = 2
    · rw [if_pos k0]; omega
    · rw [if_neg k0]
      by_cases k4 : k = 4
      · rw [if_pos k4]
        have := List.length_pos_iff.2 (h3 k4)
        omega
      · rw [if_neg k4]
        by_cases k5 : k = 5
        · rw [if_pos k5]
          have h5' := h5 k5
          have : 0 ≤ (if hi = -1 then lo + 1 else hi) * (CT.szs kids + 1) := Int.mul_nonneg (by split <;> omega) (by omega)
          omega
        · rw [if_neg k5]; omega
theorem CT.szs_nonneg : ∀ cs : List CT, CT.oks cs → 0 ≤ CT.szs cs
  | [], _ => by simp [CT.szs]
  | c :: cs, h => by
    unfold CT.oks at h
    have h1 := CT.sz_nonneg c h.1
    have h2 := CT.szs_nonneg cs h.2
    unfold CT.szs
    omega
end

theorem BS.mark (n : Int) : BS (bLead (markS n)) 2 := BS.lead _ (fun _ => Or.inr rfl) (fun _ => ⟨rfl, rfl⟩)
theorem BS.stand (n : Int) : BS (bLead (standS n)) 2 := BS.lead _ (fun _ => Or.inl rfl) (fun _ => ⟨rfl, rfl⟩)

mutual
theorem bPiece_bs : ∀ C : CT, C.ok → C.sz ≤ 1000 → BS (bPiece C) (4 * C.sz.toNat)
  | .node k sp fo nt ed gr lo hi lz kids, h, hs => by
    unfold CT.ok at h
    obtain ⟨h1, h2, h3, h5, h6⟩ := h
    have hn := CT.szs_nonneg kids h6
    have hOne := bOne_bs kids h6
    have hSeq := bSeq_bs kids h6
    have hAlt := bAlt_bs kids h6
    unfold CT.sz at hs ⊢
    unfold bPiece
    by_cases k0 : k = 0
    · simp only [k0, if_true, true_or] at hs ⊢
      exact (BS.take sp fo nt).more (by omega)
    · by_cases k1 : k = 1
      · simp only [k1, if_true, true_or, or_true, Int.reduceEq, if_false] at hs ⊢
        exact (BS.stand ed).more (by omega)
      · by_cases k2 : k = 2
        · simp only [k2, if_true, or_true, Int.reduceEq, if_false] at hs ⊢
          have hO := hOne (by omega) (h2 (Or.inl k2))
          by_cases g0 : gr = 0
          · simp only [g0, if_true]
            exact hO.more (by omega)
          · simp only [g0, if_false]
            refine ((BS.mark (2 * (gr - 1))).comp (hO.comp (BS.mark (2 * (gr - 1) + 1)))).more ?_
            omega
        · have e012 : ¬ (k = 0 ∨ k = 1 ∨ k = 2) := by omega
          rw [if_neg e012] at hs ⊢
          simp only [k0, k1, k2, if_false]
          by_cases k3 : k = 3
          · simp only [k3, if_true, Int.reduceEq, if_false] at hs ⊢
            exact (hSeq (by omega)).more (by omega)
          · by_cases k4 : k = 4
            · simp only [k4, if_true, Int.reduceEq, if_false] at hs ⊢
              have hp := List.length_pos_iff.2 (h3 k4)
              exact (hAlt (by omega) (h3 k4)).more (by omega)
            · have k5 : k = 5 := by omega
              simp only [k5, if_true, Int.reduceEq, if_false] at hs ⊢
              have hb := h5 k5
              have hc : 0 ≤ (if hi = -1 then lo + 1 else hi) ∧ (if hi = -1 then lo + 1 else hi) ≤ 21 := by split <;> omega
              generalize hcc : (if hi = -1 then lo + 1 else hi) = cc at *
              by_cases z : cc = 0
              · have hi0 : hi = 0 ∧ lo = 0 := by split at hcc <;> omega
                rw [z, Int.zero_mul]
                have e : bTimes (bOne kids) lo hi lz = fun st nx => (st, nx) := by
                  funext st nx
                  unfold bTimes
                  rw [hi0.1, hi0.2]
                  rfl
                have e' : (fun st nx => bTimes (bOne kids) lo hi lz st nx) = fun st nx => (st, nx) := by rw [e]
                rw [e']
                exact BS.id
              · have hm : cc * (CT.szs kids + 1) ≤ 1000 := by omega
                have h1' : CT.szs kids + 1 ≤ cc * (CT.szs kids + 1) := by
                  have := Int.mul_le_mul_of_nonneg_right (show 1 ≤ cc by omega) (show 0 ≤ CT.szs kids + 1 by omega)
                  rw [Int.one_mul] at this
                  exact this
                have hO := hOne (by omega) (h2 (Or.inr k5))
                have ht := BS.times hO lo hi lz hb.1 hb.2.2.2.2
                rw [hcc] at ht
                refine ht.more ?_
                have : (cc * (CT.szs kids + 1)).toNat = cc.toNat * ((CT.szs kids).toNat + 1) := by
                  rw [Int.toNat_mul hc.1 (by omega)]
                  congr 1
                  omega
                have e : (min (cc * (CT.szs kids + 1)) 1001).toNat = (cc * (CT.szs kids + 1)).toNat := by omega
                rw [e, this]
                exact Nat.le_refl _
theorem bOne_bs : ∀ cs : List CT, CT.oks cs → CT.szs cs ≤ 1000 → cs.length = 1 → BS (bOne cs) (4 * (CT.szs cs).toNat)
  | [], _, _, hl => by simp at hl
  | [c], h, hs, _ => by
    unfold CT.oks at h
    simp only [CT.szs, Int.add_zero] at hs ⊢
    unfold bOne
    exact bPiece_bs c h.1 hs
  | c :: d :: cs, h, hs, hl => by simp at hl
theorem bSeq_bs : ∀ cs : List CT, CT.oks cs → CT.szs cs ≤ 1000 → BS (bSeq cs) (4 * (CT.szs cs).toNat)
  | [], _, _ => by unfold bSeq; exact BS.id.more (by omega)
  | c :: cs, h, hs => by
    unfold CT.oks at h
    have h1 := CT.sz_nonneg c h.1
    have h2 := CT.szs_nonneg cs h.2
    unfold CT.szs at hs ⊢
    unfold bSeq
    refine ((bPiece_bs c h.1 (by omega)).comp (bSeq_bs cs h.2 (by omega))).more ?_
    omega
theorem bAlt_bs : ∀ cs : List CT, CT.oks cs → CT.szs cs ≤ 1000 → cs ≠ [] → BS (bAlt cs) (4 * (CT.szs cs).toNat + 2 * (cs.length - 1))
  | [], _, _, hl => absurd rfl hl
  | [c], h, hs, _ => by
    unfold CT.oks at h
    simp only [CT.szs, Int.add_zero] at hs ⊢
    unfold bAlt
    exact (bPiece_bs c h.1 hs).more (by simp)
  | c :: d :: cs, h, hs, hl => by
    have hc : CT.ok c ∧ CT.oks (d :: cs) := by unfold CT.oks at h; exact h
    have h1 := CT.sz_nonneg c hc.1
    have h2 := CT.szs_nonneg (d :: cs) hc.2
    have hs' : CT.sz c + CT.szs (d :: cs) ≤ 1000 := by unfold CT.szs at hs; exact hs
    have e : CT.szs (c :: d :: cs) = CT.sz c + CT.szs (d :: cs) := by rw [CT.szs]
    rw [e]
    unfold bAlt
    refine ((bPiece_bs c hc.1 (by omega)).alt (bAlt_bs (d :: cs) hc.2 (by omega) (by simp))).more ?_
    simp only [List.length_cons]
    omega
end
end Go.Proofs.YtnbfddjaonlmaaaGreatDoor
