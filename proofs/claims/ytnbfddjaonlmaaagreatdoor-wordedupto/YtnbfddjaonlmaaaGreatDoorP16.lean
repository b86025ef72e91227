/- What the states that the builder makes match: the first try from a state is what the functions of the text Th tell. Nothing of the program is proved here. -/
import Derived.Test.YtnbfddjaonlmaaaGreatDoorP14
import Derived.Test.YtnbfddjaonlmaaaGreatDoorP15
namespace Go.Proofs.YtnbfddjaonlmaaaGreatDoor
set_option linter.unusedVariables false
set_option maxRecDepth 100000

abbrev Got := Option (Nat × List Int)
/-! ## what states match -/
inductive Runs (M : List MS) (x : TX) : Int → Nat → List Int → Got → Prop where
  | done (s : Nat) (m : MS) (i : Nat) (gs : List Int) (h : M[s]? = some m) (hk : m.kind = 0) : Runs M x s i gs (some (i, gs))
  | takeY (s : Nat) (m : MS) (i : Nat) (gs : List Int) (r : Got) (h : M[s]? = some m) (hk : m.kind = 1) (ht : (decide (i < x.l.length) && takesC m.sp m.fo m.nt (x.rune i)) = true) (hn : Runs M x m.next (i + 1) gs r) : Runs M x s i gs r
  | takeN (s : Nat) (m : MS) (i : Nat) (gs : List Int) (h : M[s]? = some m) (hk : m.kind = 1) (ht : (decide (i < x.l.length) && takesC m.sp m.fo m.nt (x.rune i)) = false) : Runs M x s i gs none
  | standY (s : Nat) (m : MS) (i : Nat) (gs : List Int) (r : Got) (h : M[s]? = some m) (hk : m.kind = 2) (he : edgeIs x m.edge i = true) (hn : Runs M x m.next i gs r) : Runs M x s i gs r
  | standN (s : Nat) (m : MS) (i : Nat) (gs : List Int) (h : M[s]? = some m) (hk : m.kind = 2) (he : edgeIs x m.edge i = false) : Runs M x s i gs none
  | mark (s : Nat) (m : MS) (i : Nat) (gs : List Int) (r : Got) (h : M[s]? = some m) (hk : m.kind = 3) (hn : Runs M x m.next i (gs.set m.slot.toNat (x.bound i)) r) : Runs M x s i gs r
  | forkY (s : Nat) (m : MS) (i : Nat) (gs : List Int) (v : Nat × List Int) (h : M[s]? = some m) (hk : m.kind = 4) (hn : Runs M x m.next i gs (some v)) : Runs M x s i gs (some v)
  | forkN (s : Nat) (m : MS) (i : Nat) (gs : List Int) (r : Got) (h : M[s]? = some m) (hk : m.kind = 4) (hn : Runs M x m.next i gs none) (ho : Runs M x m.other i gs r) : Runs M x s i gs r
theorem Runs.nonneg {M : List MS} {x : TX} {s : Int} {i : Nat} {gs : List Int} {r : Got} (h : Runs M x s i gs r) : 0 ≤ s := by
  cases h <;> omega
def RunsO (M : List MS) (x : TX) (s : Int) (i : Nat) (gs : List Int) (r : Got) : Prop := (s = -1 ∧ r = none) ∨ Runs M x s i gs r
theorem RunsO.runs {M : List MS} {x : TX} {s : Int} {i : Nat} {gs : List Int} {r : Got} (h : RunsO M x s i gs r) (hs : s ≠ -1) : Runs M x s i gs r := h.resolve_left fun e => hs e.1
theorem RunsO.none {M : List MS} {x : TX} {s : Int} {i : Nat} {gs : List Int} {r : Got} (h : RunsO M x s i gs r) (hs : s = -1) : r = Option.none := by
  rcases h with h | h
  · exact h.2
  · have := h.nonneg; omega

/-- what a builder must do: its exits are right -/
structure BOk (x : TX) (f : Bl) (sem : Cont × Cont → Cont × Cont) : Prop where
  nostill : ∀ st nx, XOk st.length nx → nx.1 = -1 → (f st nx).2.1 = -1 → ∀ (K : Cont × Cont), (∀ i gs, K.1 i gs = none) → ∀ i gs, (sem K).1 i gs = none
  runs : ∀ st nx, XOk st.length nx → ∀ M, Has M st.length (f st nx).1.length (f st nx).1 → ∀ (K : Cont × Cont) (i : Nat), i ≤ x.l.length →
    ((∀ gs, RunsO M x nx.1 i gs (K.1 i gs)) → (∀ j, i < j → j ≤ x.l.length → ∀ gs, Runs M x nx.2 j gs (K.2 j gs)) → ∀ gs, RunsO M x (f st nx).2.1 i gs ((sem K).1 i gs)) ∧
    ((∀ j, i ≤ j → j ≤ x.l.length → ∀ gs, Runs M x nx.2 j gs (K.2 j gs)) → ∀ gs, Runs M x (f st nx).2.2 i gs ((sem K).2 i gs))

theorem BOk.id (x : TX) : BOk x (fun st nx => (st, nx)) (fun p => p) where
  nostill st nx h h1 h2 K hK := hK
  runs st nx h M hM K i hi := ⟨fun a _ => a, fun a gs => a i (Nat.le_refl _) hi gs⟩

theorem BOk.comp {x : TX} {f g : Bl} {sf sg : Cont × Cont → Cont × Cont} {c d : Nat} (hf : BOk x f sf) (hg : BOk x g sg) (bf : BS f c) (bg : BS g d)
    (up : ∀ st nx, XOk st.length nx → nx.1 ≠ -1 → (f st nx).2.1 ≠ -1) : BOk x (fun st nx => f (g st nx).1 (g st nx).2) (fun p => sf (sg p)) where
  nostill st nx h h1 h2 K hK := by
    have hx := bg.xok st nx h
    by_cases e : (g st nx).2.1 = -1
    · exact hf.nostill _ _ hx e h2 (sg K) (hg.nostill st nx h h1 e K hK)
    · exact absurd h2 (up _ _ hx e)
  runs st nx h M hM K i hi := by
    have a := bg.grow st nx
    have b := bf.grow (g st nx).1 (g st nx).2
    have hMg : Has M st.length (g st nx).1.length (g st nx).1 := hM.left b.2 b.1
    have hMf : Has M (g st nx).1.length (f (g st nx).1 (g st nx).2).1.length (f (g st nx).1 (g st nx).2).1 := hM.right a.1
    have rg := fun j hj => hg.runs st nx h M hMg K j hj
    have rf := hf.runs (g st nx).1 (g st nx).2 (bg.xok _ _ h) M hMf (sg K) i hi
    refine ⟨fun h3 h4 => ?_, fun h3 => ?_⟩
    · exact rf.1 ((rg i hi).1 h3 h4) (fun j j1 j2 => (rg j j2).2 (fun k k1 k2 => h4 k (by omega) k2))
    · exact rf.2 (fun j j1 j2 => (rg j j2).2 (fun k k1 k2 => h3 k (by omega) k2))

/-- a still end that is there has a still beginning -/
def Up (f : Bl) : Prop := ∀ st nx, XOk st.length nx → nx.1 ≠ -1 → (f st nx).2.1 ≠ -1

theorem BOk.take (x : TX) (sp : Spans) (fo nt : Bool) : BOk x (fun st nx => (st ++ [takeS sp fo nt nx.2], ((st.length : Int), (st.length : Int)))) (fun p => (takeC x sp fo nt p.2, takeC x sp fo nt p.2)) where
  nostill st nx h h1 h2 := by simp only at h2; omega
  runs st nx h M hM K i hi := by
    have hm : M[st.length]? = some (takeS sp fo nt nx.2) := hM.at (Nat.le_refl _) (by simp) (get_snoc _ _)
    have key : (∀ j, i < j → j ≤ x.l.length → ∀ gs, Runs M x nx.2 j gs (K.2 j gs)) → ∀ gs, Runs M x (st.length : Int) i gs (takeC x sp fo nt K.2 i gs) := by
      intro h4 gs
      unfold takeC
      by_cases c : (decide (i < x.l.length) && takesC sp fo nt (x.rune i)) = true
      · rw [if_pos c]
        have hlt : i < x.l.length := by simp at c; exact c.1
        exact Runs.takeY _ _ _ _ _ hm rfl c (h4 (i + 1) (by omega) hlt gs)
      · rw [if_neg c]
        exact Runs.takeN _ _ _ _ hm rfl (Bool.eq_false_iff.2 c)
    exact ⟨fun _ h4 gs => Or.inr (key h4 gs), fun h4 gs => key (fun j j1 j2 => h4 j (by omega) j2) gs⟩

theorem BOk.lead {x : TX} {s : Int → MS} {L : Cont → Cont} (hz : ∀ k i, (∀ gs, k i gs = none) → ∀ gs, L k i gs = none)
    (hl : ∀ (M : List MS) (a : Nat) (n : Int) (k : Cont) (i : Nat), i ≤ x.l.length → M[a]? = some (s n) → (∀ gs, Runs M x n i gs (k i gs)) → ∀ gs, Runs M x a i gs (L k i gs)) : BOk x (bLead s) (fun p => (L p.1, L p.2)) where
  nostill st nx h h1 h2 K hK i gs := hz _ i (hK i) gs
  runs st nx h M hM K i hi := by
    have h0 := h
    unfold XOk at h0
    unfold bLead at hM ⊢
    by_cases c1 : nx.1 = nx.2
    · rw [if_pos c1] at hM ⊢
      have hm : M[st.length]? = some (s nx.2) := hM.at (Nat.le_refl _) (by simp) (get_snoc _ _)
      exact ⟨fun h3 _ gs => Or.inr (hl M _ _ K.1 i hi hm (fun gs => by have := (h3 gs).runs (by omega); rw [c1] at this; exact this) gs), fun h3 gs => hl M _ _ K.2 i hi hm (h3 i (Nat.le_refl _) hi) gs⟩
    · rw [if_neg c1] at hM ⊢
      by_cases c2 : nx.1 = -1
      · rw [if_pos c2] at hM ⊢
        have hm : M[st.length]? = some (s nx.2) := hM.at (Nat.le_refl _) (by simp) (get_snoc _ _)
        exact ⟨fun h3 _ gs => Or.inl ⟨rfl, hz _ i (fun gs => (h3 gs).none c2) gs⟩, fun h3 gs => hl M _ _ K.2 i hi hm (h3 i (Nat.le_refl _) hi) gs⟩
      · rw [if_neg c2] at hM ⊢
        have hm : M[st.length]? = some (s nx.2) := hM.at (Nat.le_refl _) (by simp) (by simp)
        have hm1 : M[st.length + 1]? = some (s nx.1) := hM.at (by omega) (by simp) (by simp)
        exact ⟨fun h3 _ gs => Or.inr (hl M (st.length + 1) _ K.1 i hi hm1 (fun gs => (h3 gs).runs c2) gs), fun h3 gs => hl M _ _ K.2 i hi hm (h3 i (Nat.le_refl _) hi) gs⟩

theorem BOk.stand (x : TX) (e : Int) : BOk x (bLead (standS e)) (standP x e) :=
  BOk.lead (L := standC x e) (fun k i h gs => by unfold standC; split <;> simp [h]) (fun M a n k i hi hm h gs => by
    unfold standC
    by_cases c : edgeIs x e i = true
    · rw [if_pos c]; exact Runs.standY _ _ _ _ _ hm rfl c (h gs)
    · rw [if_neg c]; exact Runs.standN _ _ _ _ hm rfl (Bool.eq_false_iff.2 c))
theorem BOk.mark (x : TX) (n : Int) (k : Nat) (hk : n.toNat = k) : BOk x (bLead (markS n)) (markP x k) :=
  BOk.lead (L := markC x k) (fun c i h gs => h _) (fun M a m c i hi hm h gs => by
    refine Runs.mark _ _ _ _ _ hm rfl ?_
    show Runs M x m i (gs.set n.toNat (x.bound i)) _
    rw [hk]
    exact h _)

theorem forkOne_runs {M st : List MS} {x : TX} {a b : Int} {i : Nat} {gs : List Int} {A B : Cont} (hM : Has M st.length (bForkOne st a b).1.length (bForkOne st a b).1) (ha : RunsO M x a i gs (A i gs)) (hb : RunsO M x b i gs (B i gs)) :
    RunsO M x (bForkOne st a b).2 i gs (forkC A B i gs) := by
  unfold bForkOne at hM ⊢
  unfold forkC
  by_cases c1 : a = -1
  · rw [if_pos c1, ha.none c1]; exact hb
  · rw [if_neg c1] at hM ⊢
    by_cases c2 : b = -1
    · rw [if_pos c2, hb.none c2]
      cases e : A i gs with
      | none => simp only; rw [e] at ha; exact ha
      | some v => simp only; rw [e] at ha; exact ha
    · rw [if_neg c2] at hM ⊢
      have hm : M[st.length]? = some (forkS a b) := hM.at (Nat.le_refl _) (by simp) (get_snoc _ _)
      have ra := ha.runs c1
      have rb := hb.runs c2
      cases e : A i gs with
      | none => simp only; rw [e] at ra; exact Or.inr (Runs.forkN _ _ _ _ _ hm rfl ra rb)
      | some v => simp only; rw [e] at ra; exact Or.inr (Runs.forkY _ _ _ _ _ hm rfl ra)
theorem fork_runs {M st : List MS} {x : TX} {f s : Ex} {i : Nat} {gs : List Int} {A B : Cont × Cont} (hM : Has M st.length (bFork st f s).1.length (bFork st f s).1) :
    (RunsO M x f.1 i gs (A.1 i gs) → RunsO M x s.1 i gs (B.1 i gs) → RunsO M x (bFork st f s).2.1 i gs ((forkP A B).1 i gs)) ∧
    (RunsO M x f.2 i gs (A.2 i gs) → RunsO M x s.2 i gs (B.2 i gs) → RunsO M x (bFork st f s).2.2 i gs ((forkP A B).2 i gs)) := by
  unfold bFork at hM ⊢
  by_cases c : f.1 = f.2 ∧ s.1 = s.2
  · rw [if_pos c] at hM ⊢
    refine ⟨fun a b => ?_, fun a b => forkOne_runs hM a b⟩
    rw [c.1] at a
    rw [c.2] at b
    exact forkOne_runs hM a b
  · rw [if_neg c] at hM ⊢
    have g1 := forkOne_grow st f.2 s.2
    have g2 := forkOne_grow (bForkOne st f.2 s.2).1 f.1 s.1
    refine ⟨fun a b => forkOne_runs (hM.right g1.1) a b, fun a b => forkOne_runs (hM.left g2.2.1 g2.1) a b⟩
theorem either_runs {M st : List MS} {x : TX} {f s : Ex} {i : Nat} {gs : List Int} {A B : Cont × Cont} (lz : Bool) (hM : Has M st.length (bEither lz st f s).1.length (bEither lz st f s).1) :
    (RunsO M x f.1 i gs (A.1 i gs) → RunsO M x s.1 i gs (B.1 i gs) → RunsO M x (bEither lz st f s).2.1 i gs ((eitherP lz A B).1 i gs)) ∧
    (RunsO M x f.2 i gs (A.2 i gs) → RunsO M x s.2 i gs (B.2 i gs) → RunsO M x (bEither lz st f s).2.2 i gs ((eitherP lz A B).2 i gs)) := by
  unfold bEither eitherP at *
  cases lz
  · simp only [Bool.false_eq_true, if_false] at *; exact fork_runs hM
  · simp only [if_true] at *
    exact ⟨fun a b => (fork_runs hM).1 b a, fun a b => (fork_runs hM).2 b a⟩
theorem forkC_none {A B : Cont} {i : Nat} {gs : List Int} (ha : A i gs = none) (hb : B i gs = none) : forkC A B i gs = none := by unfold forkC; rw [ha]; exact hb
theorem eitherP_none {A B : Cont × Cont} {i : Nat} {gs : List Int} (lz : Bool) (ha : A.1 i gs = none) (hb : B.1 i gs = none) : (eitherP lz A B).1 i gs = none := by
  unfold eitherP; cases lz
  · exact forkC_none ha hb
  · exact forkC_none hb ha
theorem forkOne_none {st : List MS} {a b : Int} (h : (bForkOne st a b).2 = -1) : a = -1 ∧ b = -1 := by
  unfold bForkOne at h
  split at h
  · exact ⟨by assumption, h⟩
  · split at h
    · exact ⟨h, by assumption⟩
    · simp only at h; omega
theorem fork_none {st : List MS} {f s : Ex} (h : (bFork st f s).2.1 = -1) : f.1 = -1 ∧ s.1 = -1 := by
  unfold bFork at h
  split at h
  · next c => have := forkOne_none h; omega
  · exact forkOne_none h
theorem either_none1 {st : List MS} {f s : Ex} (lz : Bool) (h : (bEither lz st f s).2.1 = -1) : f.1 = -1 ∧ s.1 = -1 := by
  unfold bEither at h; cases lz
  · exact fork_none h
  · exact (fork_none h).symm

theorem BOk.alt {x : TX} {f g : Bl} {sf sg : Cont × Cont → Cont × Cont} {c d : Nat} (hf : BOk x f sf) (hg : BOk x g sg) (bf : BS f c) (bg : BS g d) :
    BOk x (fun st nx => bFork (f (g st nx).1 nx).1 (f (g st nx).1 nx).2 (g st nx).2) (fun p => forkP (sf p) (sg p)) where
  nostill st nx h h1 h2 K hK i gs := by
    have e := fork_none h2
    have a := bg.grow st nx
    exact forkC_none (hf.nostill _ _ (h.mono a.1) h1 e.1 K hK i gs) (hg.nostill _ _ h h1 e.2 K hK i gs)
  runs st nx h M hM K i hi := by
    have a := bg.grow st nx
    have b := bf.grow (g st nx).1 nx
    have e := fork_grow (f (g st nx).1 nx).1 (f (g st nx).1 nx).2 (g st nx).2
    have hMf' : Has M st.length (f (g st nx).1 nx).1.length (f (g st nx).1 nx).1 := hM.left e.2.1 e.1
    have rg := hg.runs st nx h M (hMf'.left b.2 b.1) K i hi
    have rf := hf.runs (g st nx).1 nx (h.mono a.1) M (hMf'.right a.1) K i hi
    have xf := bf.xok (g st nx).1 nx (h.mono a.1)
    have xg := bg.xok st nx h
    have r := fun gs => fork_runs (gs := gs) (i := i) (x := x) (A := sf K) (B := sg K) (hM.right (a := (f (g st nx).1 nx).1) (Nat.le_trans a.1 b.1))
    refine ⟨fun h3 h4 gs => (r gs).1 (rf.1 h3 h4 gs) (rg.1 h3 h4 gs), fun h3 gs => ((r gs).2 (Or.inr (rf.2 h3 gs)) (Or.inr (rg.2 h3 gs))).runs ?_⟩
    have ok := fork_ok (st := (f (g st nx).1 nx).1) (f := (f (g st nx).1 nx).2) (s := (g st nx).2) xf.pair (xg.mono b.1).pair (Or.inl (by have := xf.1; omega))
    have := ok.1.1
    omega
theorem Up.comp {f g : Bl} {d : Nat} (hf : Up f) (hg : Up g) (bg : BS g d) : Up (fun st nx => f (g st nx).1 (g st nx).2) := fun st nx h h1 => hf _ _ (bg.xok _ _ h) (hg _ _ h h1)
theorem Up.alt {f g : Bl} {d : Nat} (hf : Up f) (bg : BS g d) : Up (fun st nx => bFork (f (g st nx).1 nx).1 (f (g st nx).1 nx).2 (g st nx).2) := fun st nx h h1 e =>
  hf _ _ (h.mono (bg.grow st nx).1) h1 (fork_none e).1
theorem Up.id : Up (fun st nx => (st, nx)) := fun st nx h h1 => h1
theorem Up.take (sp : Spans) (fo nt : Bool) : Up (fun st nx => (st ++ [takeS sp fo nt nx.2], ((st.length : Int), (st.length : Int)))) := fun st nx h h1 e => by simp only at e; omega
theorem Up.lead (s : Int → MS) : Up (bLead s) := fun st nx h h1 e => by
  unfold bLead at e
  rw [if_neg h1] at e
  split at e
  · simp only at e; omega
  · simp only at e; omega
theorem Up.reps {f : Bl} {c : Nat} (hf : Up f) (bf : BS f c) : ∀ m, Up (bReps f m)
  | 0 => Up.id
  | m + 1 => (Up.reps hf bf m).comp hf bf

theorem iterP_succ (f : Cont × Cont → Cont × Cont) : ∀ (m : Nat) (p : Cont × Cont), iterP f m (f p) = iterP f (m + 1) p
  | 0, p => rfl
  | m + 1, p => by
    show f (iterP f m (f p)) = f (iterP f (m + 1) p)
    rw [iterP_succ f m p]
theorem BOk.reps {x : TX} {f : Bl} {sf : Cont × Cont → Cont × Cont} {c : Nat} (hf : BOk x f sf) (bf : BS f c) (up : Up f) : ∀ m, BOk x (bReps f m) (iterP sf m)
  | 0 => BOk.id x
  | m + 1 => by
    have := (BOk.reps hf bf up m).comp hf (bf.reps m) bf (up.reps bf m)
    have e : (fun p => iterP sf m (sf p)) = iterP sf (m + 1) := funext fun p => iterP_succ sf m p
    rw [e] at this
    exact this

theorem opts_ok {x : TX} {f : Bl} {sf : Cont × Cont → Cont × Cont} {c : Nat} (lz : Bool) (hf : BOk x f sf) (bf : BS f c) (up : Up f) (nx : Ex) : ∀ (m : Nat) (st : List MS) (al : Ex), XOk st.length nx → XOk st.length al →
    (nx.1 = -1 → (bOpts f lz nx m st al).2.1 = -1 → al.1 = -1 ∧ ∀ (K Ka : Cont × Cont), (∀ i gs, K.1 i gs = none) → (∀ i gs, Ka.1 i gs = none) → ∀ i gs, (iterP (optP sf lz K) m Ka).1 i gs = none) ∧
    (al.1 ≠ -1 → (bOpts f lz nx m st al).2.1 ≠ -1) ∧
    (∀ M, Has M st.length (bOpts f lz nx m st al).1.length (bOpts f lz nx m st al).1 → ∀ (K Ka : Cont × Cont) (i : Nat), i ≤ x.l.length →
      ((∀ gs, RunsO M x nx.1 i gs (K.1 i gs)) → (∀ j, i < j → j ≤ x.l.length → ∀ gs, Runs M x nx.2 j gs (K.2 j gs)) → (∀ gs, RunsO M x al.1 i gs (Ka.1 i gs)) → (∀ j, i < j → j ≤ x.l.length → ∀ gs, Runs M x al.2 j gs (Ka.2 j gs)) →
        ∀ gs, RunsO M x (bOpts f lz nx m st al).2.1 i gs ((iterP (optP sf lz K) m Ka).1 i gs)) ∧
      ((∀ j, i ≤ j → j ≤ x.l.length → ∀ gs, Runs M x nx.2 j gs (K.2 j gs)) → (∀ j, i ≤ j → j ≤ x.l.length → ∀ gs, Runs M x al.2 j gs (Ka.2 j gs)) → ∀ gs, Runs M x (bOpts f lz nx m st al).2.2 i gs ((iterP (optP sf lz K) m Ka).2 i gs)))
  | 0, st, al, h, ha => ⟨fun _ e => ⟨e, fun K Ka _ hKa => hKa⟩, fun h2 => h2, fun M hM K Ka i hi => ⟨fun _ _ h3 _ gs => h3 gs, fun _ h3 gs => h3 i (Nat.le_refl _) hi gs⟩⟩
  | m + 1, st, al, h, ha => by
    have g1 := bf.grow st al
    have g2 := either_grow lz (f st al).1 (f st al).2 nx
    have x1 := bf.xok st al ha
    have ok := either_ok (st := (f st al).1) lz (f := (f st al).2) (s := nx) x1.pair (h.mono g1.1).pair (Or.inl (by have := x1.1; omega))
    have hx' : XOk (bEither lz (f st al).1 (f st al).2 nx).1.length nx := h.mono (by omega)
    have ih := opts_ok lz hf bf up nx m (bEither lz (f st al).1 (f st al).2 nx).1 (bEither lz (f st al).1 (f st al).2 nx).2 hx' ok.1
    have gm := ((bf.opts lz m).grow nx (bEither lz (f st al).1 (f st al).2 nx).1 (bEither lz (f st al).1 (f st al).2 nx).2)
    refine ⟨fun h1 h3 => ?_, fun h2 => ?_, fun M hM K Ka i hi => ?_⟩
    · have h3' : (bOpts f lz nx m (bEither lz (f st al).1 (f st al).2 nx).1 (bEither lz (f st al).1 (f st al).2 nx).2).2.1 = -1 := h3
      have e := ih.1 h1 h3'
      have e1 := (either_none1 lz e.1).1
      have ha1 : al.1 = -1 := Classical.byContradiction fun c => up st al ha c e1
      refine ⟨ha1, fun K Ka hK hKa i gs => ?_⟩
      rw [← iterP_succ]
      exact e.2 K _ hK (fun i gs => eitherP_none lz (hf.nostill st al ha ha1 e1 Ka hKa i gs) (hK i gs)) i gs
    · exact ih.2.1 fun e => up st al ha h2 (either_none1 lz e).1
    · have hM' : Has M st.length (bOpts f lz nx m (bEither lz (f st al).1 (f st al).2 nx).1 (bEither lz (f st al).1 (f st al).2 nx).2).1.length (bOpts f lz nx m (bEither lz (f st al).1 (f st al).2 nx).1 (bEither lz (f st al).1 (f st al).2 nx).2).1 := hM
      have hE : Has M st.length (bEither lz (f st al).1 (f st al).2 nx).1.length (bEither lz (f st al).1 (f st al).2 nx).1 := hM'.left gm.2 gm.1
      have hF : Has M st.length (f st al).1.length (f st al).1 := hE.left g2.2.1 g2.1
      have rf := fun j hj => hf.runs st al ha M hF Ka j hj
      have re := fun j gs => either_runs (gs := gs) (i := j) (x := x) (A := sf Ka) (B := K) lz (hE.right (a := (f st al).1) g1.1)
      have mv : ∀ j, j ≤ x.l.length → (∀ k, j ≤ k → k ≤ x.l.length → ∀ gs, Runs M x nx.2 k gs (K.2 k gs)) → (∀ k, j ≤ k → k ≤ x.l.length → ∀ gs, Runs M x al.2 k gs (Ka.2 k gs)) → ∀ gs, Runs M x (bEither lz (f st al).1 (f st al).2 nx).2.2 j gs ((optP sf lz K Ka).2 j gs) := fun j hj a1 a2 gs =>
        ((re j gs).2 (Or.inr ((rf j hj).2 a2 gs)) (Or.inr (a1 j (Nat.le_refl _) hj gs))).runs (by have := ok.1.1; omega)
      have r := ih.2.2 M (hM'.right (by omega)) K (optP sf lz K Ka) i hi
      rw [← iterP_succ]
      refine ⟨fun h3 h4 h5 h6 gs => ?_, fun h3 h4 gs => ?_⟩
      · exact r.1 h3 h4 (fun gs => (re i gs).1 ((rf i hi).1 h5 h6 gs) (h3 gs)) (fun j j1 j2 gs => mv j j2 (fun k k1 k2 => h4 k (by omega) k2) (fun k k1 k2 => h6 k (by omega) k2) gs) gs
      · exact r.2 h3 (fun j j1 j2 gs => mv j j2 (fun k k1 k2 => h3 k (by omega) k2) (fun k k1 k2 => h4 k (by omega) k2) gs) gs
theorem BOk.opts {x : TX} {f : Bl} {sf : Cont × Cont → Cont × Cont} {c : Nat} (lz : Bool) (hf : BOk x f sf) (bf : BS f c) (up : Up f) (m : Nat) : BOk x (fun st nx => bOpts f lz nx m st nx) (fun p => iterP (optP sf lz p) m p) where
  nostill st nx h h1 h2 K hK := ((opts_ok lz hf bf up nx m st nx h h).1 h1 h2).2 K K hK hK
  runs st nx h M hM K i hi := by
    have r := (opts_ok lz hf bf up nx m st nx h h).2.2 M hM K K i hi
    exact ⟨fun a b => r.1 a b a b, fun a => r.2 a a⟩
theorem Up.opts {x : TX} {f : Bl} {sf : Cont × Cont → Cont × Cont} {c : Nat} (lz : Bool) (hf : BOk x f sf) (bf : BS f c) (up : Up f) (m : Nat) : Up (fun st nx => bOpts f lz nx m st nx) := fun st nx h h1 =>
  (opts_ok lz hf bf up nx m st nx h h).2.1 h1

theorem Up.loop (f : Bl) (lz : Bool) : Up (bLoop f lz) := fun st nx h h1 e => by
  unfold bLoop bLoop0 at e
  exact h1 (either_none1 lz e).2
theorem BOk.loop {x : TX} {f : Bl} {sf : Cont × Cont → Cont × Cont} {c : Nat} (lz : Bool) (hf : BOk x f sf) (bf : BS f c) (hl : Local x.l.length sf) : BOk x (bLoop f lz) (loopP x sf lz) where
  nostill st nx h h1 h2 K hK i gs := by
    unfold bLoop bLoop0 at h2
    have e := either_none1 lz h2
    have hx : XOk (st ++ [zeroS]).length (-1, (st.length : Int)) := by simp only [List.length_append, List.length_cons, List.length_nil]; unfold XOk; simp only; omega
    unfold loopP
    exact eitherP_none lz (hf.nostill _ _ hx rfl e.1 (nowhere, _) (fun _ _ => rfl) i gs) (hK i gs)
  runs st nx h M hM K i hi := by
    have hln : (st ++ [zeroS]).length = st.length + 1 := by simp
    have hx : XOk (st ++ [zeroS]).length (-1, (st.length : Int)) := by rw [hln]; unfold XOk; simp only; omega
    have g1 := bf.grow (st ++ [zeroS]) (-1, st.length)
    have x1 := bf.xok (st ++ [zeroS]) (-1, st.length) hx
    have ns := hf.nostill (st ++ [zeroS]) (-1, st.length) hx rfl
    have rf := hf.runs (st ++ [zeroS]) (-1, st.length) hx M
    have n2 : nx.2 ≠ -1 := by have := h.1; omega
    unfold bLoop bLoop0 at hM ⊢
    generalize hP : f (st ++ [zeroS]) (-1, st.length) = P at *
    obtain ⟨S, t, u⟩ := P
    simp only [List.length_set] at hM g1 x1 ns rf ⊢
    have g2 := either_grow lz S (t, t) nx
    by_cases ht : t = -1
    · subst ht
      rw [either_none] at hM ⊢
      have z : ∀ (A : Cont) i gs, (sf (nowhere, A)).1 i gs = none := fun A i gs => ns rfl (nowhere, A) (fun _ _ => rfl) i gs
      have e1 : ∀ i gs, (loopP x sf lz K).1 i gs = K.1 i gs := fun i gs => by
        unfold loopP eitherP
        cases lz
        · simp only [Bool.false_eq_true, if_false, forkP, forkC]; rw [z]
        · simp only [if_true, forkP, forkC]; rw [z]; cases K.1 i gs <;> rfl
      have e2 : ∀ i gs, (loopP x sf lz K).2 i gs = K.2 i gs := fun i gs => by
        unfold loopP eitherP
        cases lz
        · simp only [Bool.false_eq_true, if_false, forkP, forkC]; rw [z]
        · simp only [if_true, forkP, forkC]; rw [z]; cases K.2 i gs <;> rfl
      exact ⟨fun h3 _ gs => by rw [e1]; exact h3 gs, fun h3 gs => by rw [e2]; exact h3 i (Nat.le_refl _) hi gs⟩
    · have em := either_moved lz S (t := t) (nx := nx) ht n2
      have er := fun j gs => either_runs (M := M) (st := S) (f := (t, t)) (s := nx) (gs := gs) (i := j) (x := x) (A := ((sf (nowhere, againOf x.l.length sf lz K.2)).1, (sf (nowhere, againOf x.l.length sf lz K.2)).1)) (B := K) lz
      have ok := either_ok (st := S) lz (f := (t, t)) (s := nx) ⟨x1.2, x1.2⟩ (h.mono (by omega)).pair (Or.inr n2)
      generalize hE : bEither lz S (t, t) nx = E at *
      have hget : E.1.getD E.2.2.toNat zeroS = (if lz then forkS nx.2 t else forkS t nx.2) := by
        rw [em.1, Int.toNat_natCast, List.getD_eq_getElem?_getD, em.2]
        rfl
      rw [hget] at hM
      have hA : M[st.length]? = some (if lz then forkS nx.2 t else forkS t nx.2) := by
        rw [hM st.length (Nat.le_refl _) (by omega)]
        exact List.getElem?_set_self (by omega)
      have hM' : Has M (st.length + 1) E.1.length E.1 := fun j h1 h2 => by
        rw [hM j (by omega) h2, List.getElem?_set_ne (by omega)]
      have hMS : Has M (st ++ [zeroS]).length S.length S := by rw [hln]; exact Has.left hM' g2.2.1 g2.1
      have hME : Has M S.length E.1.length E.1 := fun j h1 h2 => hM' j (by omega) h2
      -- a turn, where what is behind this place is right
      have turn : ∀ j, j ≤ x.l.length → (∀ k, j < k → k ≤ x.l.length → ∀ gs, Runs M x (st.length : Int) k gs (againOf x.l.length sf lz K.2 k gs)) → ∀ gs, Runs M x t j gs ((sf (nowhere, againOf x.l.length sf lz K.2)).1 j gs) := fun j hj hk gs =>
        ((rf hMS (nowhere, againOf x.l.length sf lz K.2) j hj).1 (fun gs => Or.inl ⟨rfl, rfl⟩) hk gs).runs ht
      have again : ∀ d j, x.l.length - j ≤ d → j ≤ x.l.length → (∀ k, j ≤ k → k ≤ x.l.length → ∀ gs, Runs M x nx.2 k gs (K.2 k gs)) → ∀ gs, Runs M x (st.length : Int) j gs (againOf x.l.length sf lz K.2 j gs) := by
        intro d
        induction d with
        | zero =>
          intro j hd hj hk gs
          have rt := turn j hj (fun k k1 k2 => by omega) gs
          have rn := hk j (Nat.le_refl _) hj gs
          rw [againOf_eq hl lz K.2 j hj gs]
          cases lz
          · simp only [Bool.false_eq_true, if_false] at hA ⊢
            unfold forkC
            cases e : (sf (nowhere, againOf x.l.length sf false K.2)).1 j gs with
            | none => rw [e] at rt; exact Runs.forkN _ _ _ _ _ hA rfl rt rn
            | some v => rw [e] at rt; exact Runs.forkY _ _ _ _ _ hA rfl rt
          · simp only [if_true] at hA ⊢
            unfold forkC
            cases e : K.2 j gs with
            | none => rw [e] at rn; exact Runs.forkN _ _ _ _ _ hA rfl rn rt
            | some v => rw [e] at rn; exact Runs.forkY _ _ _ _ _ hA rfl rn
        | succ d ih =>
          intro j hd hj hk gs
          have rt := turn j hj (fun k k1 k2 gs => ih k (by omega) k2 (fun k' a b => hk k' (by omega) b) gs) gs
          have rn := hk j (Nat.le_refl _) hj gs
          rw [againOf_eq hl lz K.2 j hj gs]
          cases lz
          · simp only [Bool.false_eq_true, if_false] at hA ⊢
            unfold forkC
            cases e : (sf (nowhere, againOf x.l.length sf false K.2)).1 j gs with
            | none => rw [e] at rt; exact Runs.forkN _ _ _ _ _ hA rfl rt rn
            | some v => rw [e] at rt; exact Runs.forkY _ _ _ _ _ hA rfl rt
          · simp only [if_true] at hA ⊢
            unfold forkC
            cases e : K.2 j gs with
            | none => rw [e] at rn; exact Runs.forkN _ _ _ _ _ hA rfl rn rt
            | some v => rw [e] at rn; exact Runs.forkY _ _ _ _ _ hA rfl rn
      refine ⟨fun h3 h4 gs => ?_, fun h3 gs => ?_⟩
      · exact (er i gs hME).1 (Or.inr (turn i hi (fun k k1 k2 gs => again _ k (Nat.le_refl _) k2 (fun k' a b => h4 k' (by omega) b) gs) gs)) (h3 gs)
      · refine ((er i gs hME).2 (Or.inr (turn i hi (fun k k1 k2 gs => again _ k (Nat.le_refl _) k2 (fun k' a b => h3 k' (by omega) b) gs) gs)) (Or.inr (h3 i (Nat.le_refl _) hi gs))).runs ?_
        have := ok.1.1
        omega

theorem BOk.times {x : TX} {f : Bl} {sf : Cont × Cont → Cont × Cont} {c : Nat} (hf : BOk x f sf) (bf : BS f c) (hl : Local x.l.length sf) (up : Up f) (lo hi : Int) (lz : Bool) : BOk x (bTimes f lo hi lz) (timesP x sf lo hi lz) := by
  unfold bTimes timesP
  by_cases e : hi = -1
  · simp only [e, if_true]
    exact (hf.reps bf up lo.toNat).comp (hf.loop lz bf hl) (bf.reps _) (bf.loop lz) (up.reps bf _)
  · simp only [e, if_false]
    exact (hf.reps bf up lo.toNat).comp (hf.opts lz bf up (hi - lo).toNat) (bf.reps _) (bf.opts lz _).bs (up.reps bf _)
theorem Up.times {x : TX} {f : Bl} {sf : Cont × Cont → Cont × Cont} {c : Nat} (hf : BOk x f sf) (bf : BS f c) (up : Up f) (lo hi : Int) (lz : Bool) : Up (bTimes f lo hi lz) := by
  unfold bTimes
  by_cases e : hi = -1
  · simp only [e, if_true]
    exact (up.reps bf _).comp (Up.loop f lz) (bf.loop lz)
  · simp only [e, if_false]
    exact (up.reps bf _).comp (Up.opts lz hf bf up _) (bf.opts lz _).bs

/-! ## groups -/
mutual
def CT.gok (G : Int) : CT → Prop
  | .node k sp fo nt ed gr lo hi lz kids => 0 ≤ gr ∧ gr ≤ G ∧ CT.goks G kids
def CT.goks (G : Int) : List CT → Prop
  | [] => True
  | c :: cs => CT.gok G c ∧ CT.goks G cs
end

mutual
theorem bPiece_ok (x : TX) (G : Int) : ∀ C : CT, C.ok → C.sz ≤ 1000 → C.gok G → BOk x (bPiece C) (semC x C) ∧ Up (bPiece C)
  | .node k sp fo nt ed gr lo hi lz kids, h, hs, hg => by
    unfold CT.ok at h
    unfold CT.gok at hg
    obtain ⟨h1, h2, h3, h5, h6⟩ := h
    obtain ⟨g1, g2, g3⟩ := hg
    have hn := CT.szs_nonneg kids h6
    have hOne := bOne_ok x G kids h6
    have bOne := bOne_bs kids h6
    have hSeq := bSeq_ok x G kids h6
    have hAlt := bAlt_ok x G kids h6
    have lOne := semOne_local x kids
    unfold CT.sz at hs
    unfold bPiece semC
    by_cases k0 : k = 0
    · simp only [k0, if_true, true_or] at hs ⊢
      exact ⟨BOk.take x sp fo nt, Up.take sp fo nt⟩
    · by_cases k1 : k = 1
      · simp only [k1, if_true, true_or, or_true, Int.reduceEq, if_false] at hs ⊢
        exact ⟨BOk.stand x ed, Up.lead _⟩
      · by_cases k2 : k = 2
        · simp only [k2, if_true, or_true, Int.reduceEq, if_false] at hs ⊢
          have hO := hOne (by omega) (h2 (Or.inl k2)) g3
          have bO := bOne (by omega) (h2 (Or.inl k2))
          by_cases g0 : gr = 0
          · simp only [g0, if_true]
            exact hO
          · simp only [g0, if_false]
            have m1 := BOk.mark x (2 * (gr - 1) + 1) (2 * (gr.toNat - 1) + 1) (by omega)
            have m0 := BOk.mark x (2 * (gr - 1)) (2 * (gr.toNat - 1)) (by omega)
            have b1 := BS.mark (2 * (gr - 1) + 1)
            have u1 : Up (bLead (markS (2 * (gr - 1) + 1))) := Up.lead _
            exact ⟨m0.comp (hO.1.comp m1 bO b1 hO.2) (BS.mark _) (bO.comp b1) (Up.lead _), (Up.lead _).comp (hO.2.comp u1 b1) (bO.comp b1)⟩
        · have e012 : ¬ (k = 0 ∨ k = 1 ∨ k = 2) := by omega
          rw [if_neg e012] at hs
          simp only [k0, k1, k2, if_false]
          by_cases k3 : k = 3
          · simp only [k3, if_true, Int.reduceEq, if_false] at hs ⊢
            exact hSeq (by omega) g3
          · by_cases k4 : k = 4
            · simp only [k4, if_true, Int.reduceEq, if_false] at hs ⊢
              have hp := List.length_pos_iff.2 (h3 k4)
              exact hAlt (by omega) (h3 k4) g3
            · have k5 : k = 5 := by omega
              simp only [k5, if_true, Int.reduceEq, if_false] at hs ⊢
              have hb := h5 k5
              have hc : 0 ≤ (if hi = -1 then lo + 1 else hi) ∧ (if hi = -1 then lo + 1 else hi) ≤ 21 := by split <;> omega
              generalize hcc : (if hi = -1 then lo + 1 else hi) = cc at *
              by_cases z : cc = 0
              · have hi0 : hi = 0 ∧ lo = 0 := by split at hcc <;> omega
                have e : bTimes (Go.Proofs.YtnbfddjaonlmaaaGreatDoor.bOne kids) lo hi lz = fun st nx => (st, nx) := by
                  funext st nx
                  unfold bTimes
                  rw [hi0.1, hi0.2]
                  rfl
                have e' : (fun st nx => bTimes (Go.Proofs.YtnbfddjaonlmaaaGreatDoor.bOne kids) lo hi lz st nx) = fun st nx => (st, nx) := by rw [e]
                have e2 : (fun nx => timesP x (semOne x kids) lo hi lz nx) = fun nx => nx := by
                  funext nx
                  unfold timesP
                  rw [hi0.1, hi0.2]
                  rfl
                rw [e', e2]
                exact ⟨BOk.id x, Up.id⟩
              · have hm : cc * (CT.szs kids + 1) ≤ 1000 := by omega
                have h1' : CT.szs kids + 1 ≤ cc * (CT.szs kids + 1) := by
                  have := Int.mul_le_mul_of_nonneg_right (show 1 ≤ cc by omega) (show 0 ≤ CT.szs kids + 1 by omega)
                  rw [Int.one_mul] at this
                  exact this
                have hO := hOne (by omega) (h2 (Or.inr k5)) g3
                have bO := bOne (by omega) (h2 (Or.inr k5))
                exact ⟨BOk.times hO.1 bO lOne hO.2 lo hi lz, Up.times hO.1 bO hO.2 lo hi lz⟩
theorem bOne_ok (x : TX) (G : Int) : ∀ cs : List CT, CT.oks cs → CT.szs cs ≤ 1000 → cs.length = 1 → CT.goks G cs → BOk x (bOne cs) (semOne x cs) ∧ Up (bOne cs)
  | [], _, _, hl, _ => by simp at hl
  | [c], h, hs, _, hg => by
    unfold CT.oks at h
    unfold CT.goks at hg
    simp only [CT.szs, Int.add_zero] at hs
    unfold bOne semOne
    exact bPiece_ok x G c h.1 hs hg.1
  | c :: d :: cs, h, hs, hl, _ => by simp at hl
theorem bSeq_ok (x : TX) (G : Int) : ∀ cs : List CT, CT.oks cs → CT.szs cs ≤ 1000 → CT.goks G cs → BOk x (bSeq cs) (semSeq x cs) ∧ Up (bSeq cs)
  | [], _, _, _ => by unfold bSeq semSeq; exact ⟨BOk.id x, Up.id⟩
  | c :: cs, h, hs, hg => by
    unfold CT.oks at h
    unfold CT.goks at hg
    have h1 := CT.sz_nonneg c h.1
    have h2 := CT.szs_nonneg cs h.2
    unfold CT.szs at hs
    unfold bSeq semSeq
    have a := bPiece_ok x G c h.1 (by omega) hg.1
    have b := bSeq_ok x G cs h.2 (by omega) hg.2
    have ba := bPiece_bs c h.1 (by omega)
    have bb := bSeq_bs cs h.2 (by omega)
    exact ⟨a.1.comp b.1 ba bb a.2, a.2.comp b.2 bb⟩
theorem bAlt_ok (x : TX) (G : Int) : ∀ cs : List CT, CT.oks cs → CT.szs cs ≤ 1000 → cs ≠ [] → CT.goks G cs → BOk x (bAlt cs) (semAlt x cs) ∧ Up (bAlt cs)
  | [], _, _, hl, _ => absurd rfl hl
  | [c], h, hs, _, hg => by
    unfold CT.oks at h
    unfold CT.goks at hg
    simp only [CT.szs, Int.add_zero] at hs
    unfold bAlt semAlt
    exact bPiece_ok x G c h.1 hs hg.1
  | c :: d :: cs, h, hs, hl, hg => by
    have hc : CT.ok c ∧ CT.oks (d :: cs) := by unfold CT.oks at h; exact h
    have hg' : CT.gok G c ∧ CT.goks G (d :: cs) := by unfold CT.goks at hg; exact hg
    have h1 := CT.sz_nonneg c hc.1
    have h2 := CT.szs_nonneg (d :: cs) hc.2
    have hs' : CT.sz c + CT.szs (d :: cs) ≤ 1000 := by unfold CT.szs at hs; exact hs
    have a := bPiece_ok x G c hc.1 (by omega) hg'.1
    have b := bAlt_ok x G (d :: cs) hc.2 (by omega) (by simp) hg'.2
    have ba := bPiece_bs c hc.1 (by omega)
    have bb := bAlt_bs (d :: cs) hc.2 (by omega) (by simp)
    unfold bAlt semAlt
    exact ⟨a.1.alt b.1 ba bb, a.2.alt bb⟩
end
end Go.Proofs.YtnbfddjaonlmaaaGreatDoor
