/- What the states in their new order match; which of them come off. The builder of the program's machine in memory: 'BdAt w b lo hi v st': block b is a builder of the states st; the sets of their pieces lie in blocks from lo up to hi. -/
import Derived.Test.YtnbfddjaonlmaaaGreatDoorP16
import Derived.Test.YtnbfddjaonlmaaaGreatDoorP17
import Derived.Test.YtnbfddjaonlmaaaGreatDoorP07
import Derived.Test.YtnbfddjaonlmaaaGreatDoorP15
import Derived.Deep.RegionLaw
set_option linter.unusedVariables false
set_option maxRecDepth 100000
namespace Go.Proofs.YtnbfddjaonlmaaaGreatDoor

/-- states of which those that go on at their place go on to lower numbers -/
def MGood (ms : List MS) : Prop := ∀ (u : Nat) (m : MS), ms[u]? = some m → (0 ≤ m.kind ∧ m.kind ≤ 4) ∧ (m.kind = 1 → 0 ≤ m.next ∧ m.next < ms.length) ∧ (m.kind = 2 ∨ m.kind = 3 ∨ m.kind = 4 → 0 ≤ m.next ∧ m.next < u) ∧ (m.kind = 4 → 0 ≤ m.other ∧ m.other < u)

theorem sorted_get {M : List MS} {V : VS} {k s : Nat} (hk : V.ord[k]? = some s) {m : MS} (hm : M[s]? = some m) : (sorted M V)[k]? = some { m with next := V.num.getD m.next.toNat 0, other := V.num.getD m.other.toNat 0 } := by
  unfold sorted
  rw [List.getElem?_map, hk]
  simp [List.getD_eq_getElem?_getD, hm]
theorem sorted_length (M : List MS) (V : VS) : (sorted M V).length = V.ord.length := by unfold sorted; simp

theorem num_getD {V : VS} {t : Nat} {u : Nat} (h : V.num[t]? = some (u : Int)) : V.num.getD t 0 = (u : Int) := by rw [List.getD_eq_getElem?_getD, h]; rfl

/-- a run of states is one of them in their new order -/
theorem sorted_runs {M : List MS} {x : TX} {R : Nat → Prop} {V : VS} (hV : VInv M R V) (hS : Shut M R)
    (hnum : ∀ t, (∃ (s : Nat) (m : MS), s ∈ V.ord ∧ M[s]? = some m ∧ m.kind = 1 ∧ t = m.next.toNat) → ∃ u : Nat, V.num[t]? = some (u : Int)) {s : Int} {i : Nat} {gs : List Int} {r : Got} (h : Runs M x s i gs r) :
    ∀ k : Nat, V.num[s.toNat]? = some (k : Int) → Runs (sorted M V) x (k : Int) i gs r := by
  have ordOf : ∀ {s k : Nat}, V.num[s]? = some (k : Int) → V.ord[k]? = some s := fun {s k} h => by
    obtain ⟨k', e, h'⟩ := hV.has s k h (by omega)
    have : k' = k := by omega
    rw [← this]; exact h'
  have stepTo : ∀ {s k : Nat} {m : MS} {t : Int}, V.ord[k]? = some s → M[s]? = some m → Step M s t → ∃ k' : Nat, V.num[t.toNat]? = some (k' : Int) := fun h1 h2 h3 => by
    obtain ⟨k', _, h'⟩ := (hV.next _ _ _ h1 h2).2 _ h3
    exact ⟨k', h'⟩
  induction h with
  | done s m i gs h hk => intro k hn; exact Runs.done _ _ _ _ (sorted_get (ordOf (by simpa using hn)) h) hk
  | takeY s m i gs r h hk ht hn ih =>
    intro k hn'
    have ho := ordOf (s := s) (by simpa using hn')
    obtain ⟨u, hu⟩ := hnum m.next.toNat ⟨s, m, List.mem_of_getElem? ho, h, hk, rfl⟩
    exact Runs.takeY _ _ _ _ _ (sorted_get ho h) hk ht (by show Runs _ _ (V.num.getD m.next.toNat 0) _ _ _; rw [num_getD hu]; exact ih u hu)
  | takeN s m i gs h hk ht => intro k hn; exact Runs.takeN _ _ _ _ (sorted_get (ordOf (by simpa using hn)) h) hk ht
  | standY s m i gs r h hk he hn ih =>
    intro k hn'
    have ho := ordOf (s := s) (by simpa using hn')
    obtain ⟨u, hu⟩ := stepTo (t := m.next) ho h ⟨s, m, rfl, h, Or.inl ⟨Or.inl hk, rfl⟩⟩
    exact Runs.standY _ _ _ _ _ (sorted_get ho h) hk he (by show Runs _ _ (V.num.getD m.next.toNat 0) _ _ _; rw [num_getD hu]; exact ih u hu)
  | standN s m i gs h hk he => intro k hn; exact Runs.standN _ _ _ _ (sorted_get (ordOf (by simpa using hn)) h) hk he
  | mark s m i gs r h hk hn ih =>
    intro k hn'
    have ho := ordOf (s := s) (by simpa using hn')
    obtain ⟨u, hu⟩ := stepTo (t := m.next) ho h ⟨s, m, rfl, h, Or.inl ⟨Or.inr (Or.inl hk), rfl⟩⟩
    exact Runs.mark _ _ _ _ _ (sorted_get ho h) hk (by show Runs _ _ (V.num.getD m.next.toNat 0) _ _ _; rw [num_getD hu]; exact ih u hu)
  | forkY s m i gs v h hk hn ih =>
    intro k hn'
    have ho := ordOf (s := s) (by simpa using hn')
    obtain ⟨u, hu⟩ := stepTo (t := m.next) ho h ⟨s, m, rfl, h, Or.inl ⟨Or.inr (Or.inr hk), rfl⟩⟩
    exact Runs.forkY _ _ _ _ _ (sorted_get ho h) hk (by show Runs _ _ (V.num.getD m.next.toNat 0) _ _ _; rw [num_getD hu]; exact ih u hu)
  | forkN s m i gs r h hk hn ho' ih ih' =>
    intro k hn'
    have ho := ordOf (s := s) (by simpa using hn')
    obtain ⟨u, hu⟩ := stepTo (t := m.next) ho h ⟨s, m, rfl, h, Or.inl ⟨Or.inr (Or.inr hk), rfl⟩⟩
    obtain ⟨u', hu'⟩ := stepTo (t := m.other) ho h ⟨s, m, rfl, h, Or.inr ⟨hk, rfl⟩⟩
    exact Runs.forkN _ _ _ _ _ (sorted_get ho h) hk (by show Runs _ _ (V.num.getD m.next.toNat 0) _ _ _; rw [num_getD hu]; exact ih u hu) (by show Runs _ _ (V.num.getD m.other.toNat 0) _ _ _; rw [num_getD hu']; exact ih' u' hu')

theorem sorted_good {M : List MS} {R : Nat → Prop} {V : VS} (hV : VInv M R V) (hS : Shut M R) (hk5 : ∀ m ∈ M, 0 ≤ m.kind ∧ m.kind ≤ 4)
    (hnum : ∀ t, (∃ (s : Nat) (m : MS), s ∈ V.ord ∧ M[s]? = some m ∧ m.kind = 1 ∧ t = m.next.toNat) → ∃ u : Nat, V.num[t]? = some (u : Int)) : MGood (sorted M V) := by
  intro k m' hm'
  have hlt : k < V.ord.length := by rw [← sorted_length M V]; exact (List.getElem?_eq_some_iff.1 hm').1
  have ho : V.ord[k]? = some V.ord[k] := List.getElem?_eq_getElem hlt
  obtain ⟨m, hm, _⟩ := hS.cl _ (hV.inR _ (List.getElem_mem hlt))
  rw [sorted_get ho hm] at hm'
  cases hm'
  have hst := hV.next k _ m ho hm
  refine ⟨hk5 m (List.mem_of_getElem? hm), fun h1 => ?_, fun h1 => ?_, fun h1 => ?_⟩
  · obtain ⟨u, hu⟩ := hnum m.next.toNat ⟨_, m, List.getElem_mem hlt, hm, h1, rfl⟩
    simp only
    rw [num_getD hu, sorted_length]
    obtain ⟨k', e, h'⟩ := hV.has _ _ hu (by omega)
    have := (List.getElem?_eq_some_iff.1 h').1
    omega
  · obtain ⟨k', h2, h3⟩ := hst.2 m.next ⟨_, m, rfl, hm, Or.inl ⟨h1, rfl⟩⟩
    simp only
    rw [num_getD h3]
    omega
  · obtain ⟨k', h2, h3⟩ := hst.2 m.other ⟨_, m, rfl, hm, Or.inr ⟨h1, rfl⟩⟩
    simp only
    rw [num_getD h3]
    omega

/-! ## from every state, at every place, there is a run, and one alone -/
theorem Runs.inv {M : List MS} {x : TX} {s : Int} {u : Nat} {i : Nat} {gs : List Int} {r : Got} {m : MS} (h : Runs M x s i gs r) (hs : s = u) (hm : M[u]? = some m) :
    (m.kind = 0 ∧ r = some (i, gs)) ∨
    (m.kind = 1 ∧ (decide (i < x.l.length) && takesC m.sp m.fo m.nt (x.rune i)) = true ∧ Runs M x m.next (i + 1) gs r) ∨
    (m.kind = 1 ∧ (decide (i < x.l.length) && takesC m.sp m.fo m.nt (x.rune i)) = false ∧ r = none) ∨
    (m.kind = 2 ∧ edgeIs x m.edge i = true ∧ Runs M x m.next i gs r) ∨
    (m.kind = 2 ∧ edgeIs x m.edge i = false ∧ r = none) ∨
    (m.kind = 3 ∧ Runs M x m.next i (gs.set m.slot.toNat (x.bound i)) r) ∨
    (m.kind = 4 ∧ ∃ v, r = some v ∧ Runs M x m.next i gs (some v)) ∨
    (m.kind = 4 ∧ Runs M x m.next i gs none ∧ Runs M x m.other i gs r) := by
  have aux : ∀ (s' : Nat) (m' : MS), (s' : Int) = u → M[s']? = some m' → m' = m := fun s' m' e h' => by
    have : s' = u := by omega
    subst this
    rw [h'] at hm
    exact Option.some.inj hm
  cases h with
  | done s' m' i gs h hk => obtain rfl := aux s' m' hs h; exact Or.inl ⟨hk, rfl⟩
  | takeY s' m' i gs r h hk ht hn => obtain rfl := aux s' m' hs h; exact Or.inr (Or.inl ⟨hk, ht, hn⟩)
  | takeN s' m' i gs h hk ht => obtain rfl := aux s' m' hs h; exact Or.inr (Or.inr (Or.inl ⟨hk, ht, rfl⟩))
  | standY s' m' i gs r h hk he hn => obtain rfl := aux s' m' hs h; exact Or.inr (Or.inr (Or.inr (Or.inl ⟨hk, he, hn⟩)))
  | standN s' m' i gs h hk he => obtain rfl := aux s' m' hs h; exact Or.inr (Or.inr (Or.inr (Or.inr (Or.inl ⟨hk, he, rfl⟩))))
  | mark s' m' i gs r h hk hn => obtain rfl := aux s' m' hs h; exact Or.inr (Or.inr (Or.inr (Or.inr (Or.inr (Or.inl ⟨hk, hn⟩)))))
  | forkY s' m' i gs v h hk hn => obtain rfl := aux s' m' hs h; exact Or.inr (Or.inr (Or.inr (Or.inr (Or.inr (Or.inr (Or.inl ⟨hk, v, rfl, hn⟩))))))
  | forkN s' m' i gs r h hk hn ho => obtain rfl := aux s' m' hs h; exact Or.inr (Or.inr (Or.inr (Or.inr (Or.inr (Or.inr (Or.inr ⟨hk, hn, ho⟩))))))
/-- whether it comes off, and where it ends, does not hang on the groups -/
theorem Runs.same {M : List MS} {x : TX} {s : Int} {i : Nat} {gs : List Int} {r : Got} (h : Runs M x s i gs r) : ∀ {gs' : List Int} {r' : Got}, Runs M x s i gs' r' → r.map (·.1) = r'.map (·.1) ∧ (gs = gs' → r = r') := by
  induction h with
  | done s m i gs h hk =>
    intro gs' r' h'
    rcases h'.inv rfl h with ⟨a, e⟩ | ⟨a, _⟩ | ⟨a, _⟩ | ⟨a, _⟩ | ⟨a, _⟩ | ⟨a, _⟩ | ⟨a, _⟩ | ⟨a, _⟩ <;> first | omega | skip
    subst e; exact ⟨rfl, fun e => by rw [e]⟩
  | takeY s m i gs r h hk ht hn ih =>
    intro gs' r' h'
    rcases h'.inv rfl h with ⟨a, e⟩ | ⟨a, b, e⟩ | ⟨a, b, e⟩ | ⟨a, _⟩ | ⟨a, _⟩ | ⟨a, _⟩ | ⟨a, _⟩ | ⟨a, _⟩ <;> first | omega | skip
    · exact ih e
    · rw [ht] at b; cases b
  | takeN s m i gs h hk ht =>
    intro gs' r' h'
    rcases h'.inv rfl h with ⟨a, e⟩ | ⟨a, b, e⟩ | ⟨a, b, e⟩ | ⟨a, _⟩ | ⟨a, _⟩ | ⟨a, _⟩ | ⟨a, _⟩ | ⟨a, _⟩ <;> first | omega | skip
    · rw [ht] at b; cases b
    · subst e; exact ⟨rfl, fun _ => rfl⟩
  | standY s m i gs r h hk he hn ih =>
    intro gs' r' h'
    rcases h'.inv rfl h with ⟨a, e⟩ | ⟨a, b, e⟩ | ⟨a, b, e⟩ | ⟨a, b, e⟩ | ⟨a, b, e⟩ | ⟨a, _⟩ | ⟨a, _⟩ | ⟨a, _⟩ <;> first | omega | skip
    · exact ih e
    · rw [he] at b; cases b
  | standN s m i gs h hk he =>
    intro gs' r' h'
    rcases h'.inv rfl h with ⟨a, e⟩ | ⟨a, b, e⟩ | ⟨a, b, e⟩ | ⟨a, b, e⟩ | ⟨a, b, e⟩ | ⟨a, _⟩ | ⟨a, _⟩ | ⟨a, _⟩ <;> first | omega | skip
    · rw [he] at b; cases b
    · subst e; exact ⟨rfl, fun _ => rfl⟩
  | mark s m i gs r h hk hn ih =>
    intro gs' r' h'
    rcases h'.inv rfl h with ⟨a, e⟩ | ⟨a, b, e⟩ | ⟨a, b, e⟩ | ⟨a, b, e⟩ | ⟨a, b, e⟩ | ⟨a, b⟩ | ⟨a, _⟩ | ⟨a, _⟩ <;> first | omega | skip
    exact ⟨(ih b).1, fun e => (ih b).2 (by rw [e])⟩
  | forkY s m i gs v h hk hn ih =>
    intro gs' r' h'
    rcases h'.inv rfl h with ⟨a, e⟩ | ⟨a, b, e⟩ | ⟨a, b, e⟩ | ⟨a, b, e⟩ | ⟨a, b, e⟩ | ⟨a, b⟩ | ⟨a, v', e, b⟩ | ⟨a, b, c⟩ <;> first | omega | skip
    · subst e; exact ih b
    · have := (ih b).1; simp at this
  | forkN s m i gs r h hk hn ho ih ih' =>
    intro gs' r' h'
    rcases h'.inv rfl h with ⟨a, e⟩ | ⟨a, b, e⟩ | ⟨a, b, e⟩ | ⟨a, b, e⟩ | ⟨a, b, e⟩ | ⟨a, b⟩ | ⟨a, v', e, b⟩ | ⟨a, b, c⟩ <;> first | omega | skip
    · have := (ih b).1; simp at this
    · exact ih' c
theorem MGood.runs {ms : List MS} (hg : MGood ms) (x : TX) : ∀ (d i : Nat), x.l.length - i ≤ d → i ≤ x.l.length → ∀ (n u : Nat), u ≤ n → u < ms.length → ∀ gs, ∃ r, Runs ms x (u : Int) i gs r := by
  intro d
  induction d with
  | zero =>
    intro i hd hi n
    induction n with
    | zero =>
      intro u hn hu gs
      obtain ⟨m, hm⟩ : ∃ m, ms[u]? = some m := ⟨_, List.getElem?_eq_getElem hu⟩
      obtain ⟨⟨k0, k4⟩, g1, g2, g3⟩ := hg u m hm
      by_cases e0 : m.kind = 0
      · exact ⟨_, Runs.done _ _ _ _ hm e0⟩
      · by_cases e1 : m.kind = 1
        · exact ⟨_, Runs.takeN _ _ _ _ hm e1 (by simp; omega)⟩
        · have := g2 (by omega); omega
    | succ n ih =>
      intro u hn hu gs
      obtain ⟨m, hm⟩ : ∃ m, ms[u]? = some m := ⟨_, List.getElem?_eq_getElem hu⟩
      obtain ⟨⟨k0, k4⟩, g1, g2, g3⟩ := hg u m hm
      have to : ∀ (t : Int), 0 ≤ t → t < u → ∀ gs, ∃ r, Runs ms x t i gs r := fun t h1 h2 gs => by
        obtain ⟨t', rfl⟩ := Int.eq_ofNat_of_zero_le h1
        exact ih t' (by omega) (by omega) gs
      by_cases e0 : m.kind = 0
      · exact ⟨_, Runs.done _ _ _ _ hm e0⟩
      · by_cases e1 : m.kind = 1
        · exact ⟨_, Runs.takeN _ _ _ _ hm e1 (by simp; omega)⟩
        · have h2 := g2 (by omega)
          by_cases e2 : m.kind = 2
          · by_cases he : edgeIs x m.edge i = true
            · obtain ⟨r, hr⟩ := to _ h2.1 h2.2 gs
              exact ⟨r, Runs.standY _ _ _ _ _ hm e2 he hr⟩
            · exact ⟨_, Runs.standN _ _ _ _ hm e2 (Bool.eq_false_iff.2 he)⟩
          · by_cases e3 : m.kind = 3
            · obtain ⟨r, hr⟩ := to _ h2.1 h2.2 (gs.set m.slot.toNat (x.bound i))
              exact ⟨r, Runs.mark _ _ _ _ _ hm e3 hr⟩
            · have e4 : m.kind = 4 := by omega
              obtain ⟨r, hr⟩ := to _ h2.1 h2.2 gs
              obtain ⟨r', hr'⟩ := to _ (g3 e4).1 (g3 e4).2 gs
              cases r with
              | some v => exact ⟨_, Runs.forkY _ _ _ _ _ hm e4 hr⟩
              | none => exact ⟨_, Runs.forkN _ _ _ _ _ hm e4 hr hr'⟩
  | succ d IH =>
    intro i hd hi n
    induction n with
    | zero =>
      intro u hn hu gs
      obtain ⟨m, hm⟩ : ∃ m, ms[u]? = some m := ⟨_, List.getElem?_eq_getElem hu⟩
      obtain ⟨⟨k0, k4⟩, g1, g2, g3⟩ := hg u m hm
      by_cases e0 : m.kind = 0
      · exact ⟨_, Runs.done _ _ _ _ hm e0⟩
      · by_cases e1 : m.kind = 1
        · by_cases ht : (decide (i < x.l.length) && takesC m.sp m.fo m.nt (x.rune i)) = true
          · have hlt : i < x.l.length := by simp at ht; exact ht.1
            have h1 := g1 e1
            obtain ⟨t, ht'⟩ := Int.eq_ofNat_of_zero_le h1.1
            obtain ⟨r, hr⟩ := IH (i + 1) (by omega) (by omega) t t (Nat.le_refl _) (by omega) gs
            exact ⟨r, Runs.takeY _ _ _ _ _ hm e1 ht (by rw [ht']; exact hr)⟩
          · exact ⟨_, Runs.takeN _ _ _ _ hm e1 (Bool.eq_false_iff.2 ht)⟩
        · have := g2 (by omega); omega
    | succ n ih =>
      intro u hn hu gs
      obtain ⟨m, hm⟩ : ∃ m, ms[u]? = some m := ⟨_, List.getElem?_eq_getElem hu⟩
      obtain ⟨⟨k0, k4⟩, g1, g2, g3⟩ := hg u m hm
      have to : ∀ (t : Int), 0 ≤ t → t < u → ∀ gs, ∃ r, Runs ms x t i gs r := fun t h1 h2 gs => by
        obtain ⟨t', rfl⟩ := Int.eq_ofNat_of_zero_le h1
        exact ih t' (by omega) (by omega) gs
      by_cases e0 : m.kind = 0
      · exact ⟨_, Runs.done _ _ _ _ hm e0⟩
      · by_cases e1 : m.kind = 1
        · by_cases ht : (decide (i < x.l.length) && takesC m.sp m.fo m.nt (x.rune i)) = true
          · have hlt : i < x.l.length := by simp at ht; exact ht.1
            have h1 := g1 e1
            obtain ⟨t, ht'⟩ := Int.eq_ofNat_of_zero_le h1.1
            obtain ⟨r, hr⟩ := IH (i + 1) (by omega) (by omega) t t (Nat.le_refl _) (by omega) gs
            exact ⟨r, Runs.takeY _ _ _ _ _ hm e1 ht (by rw [ht']; exact hr)⟩
          · exact ⟨_, Runs.takeN _ _ _ _ hm e1 (Bool.eq_false_iff.2 ht)⟩
        · have h2 := g2 (by omega)
          by_cases e2 : m.kind = 2
          · by_cases he : edgeIs x m.edge i = true
            · obtain ⟨r, hr⟩ := to _ h2.1 h2.2 gs
              exact ⟨r, Runs.standY _ _ _ _ _ hm e2 he hr⟩
            · exact ⟨_, Runs.standN _ _ _ _ hm e2 (Bool.eq_false_iff.2 he)⟩
          · by_cases e3 : m.kind = 3
            · obtain ⟨r, hr⟩ := to _ h2.1 h2.2 (gs.set m.slot.toNat (x.bound i))
              exact ⟨r, Runs.mark _ _ _ _ _ hm e3 hr⟩
            · have e4 : m.kind = 4 := by omega
              obtain ⟨r, hr⟩ := to _ h2.1 h2.2 gs
              obtain ⟨r', hr'⟩ := to _ (g3 e4).1 (g3 e4).2 gs
              cases r with
              | some v => exact ⟨_, Runs.forkY _ _ _ _ _ hm e4 hr⟩
              | none => exact ⟨_, Runs.forkN _ _ _ _ _ hm e4 hr hr'⟩

/-- a try comes off from this state, at this place -/
def OffP (ms : List MS) (x : TX) (u : Int) (i : Nat) : Prop := ∃ gs v, Runs ms x u i gs (some v)
noncomputable def off (ms : List MS) (x : TX) (u : Int) (i : Nat) : Bool := @decide (OffP ms x u i) (Classical.propDecidable _)
theorem off_true {ms : List MS} {x : TX} {u : Int} {i : Nat} {gs : List Int} {v : Nat × List Int} (h : Runs ms x u i gs (some v)) : off ms x u i = true := by
  unfold off; exact @decide_eq_true _ (Classical.propDecidable _) ⟨gs, v, h⟩
theorem off_false {ms : List MS} {x : TX} {u : Int} {i : Nat} {gs : List Int} (h : Runs ms x u i gs none) : off ms x u i = false := by
  unfold off
  refine @decide_eq_false _ (Classical.propDecidable _) fun ⟨gs', v, h'⟩ => ?_
  have := (h.same h').1
  simp at this
theorem off_eq {ms : List MS} {x : TX} {u : Int} {i : Nat} {gs : List Int} {r : Got} (h : Runs ms x u i gs r) : off ms x u i = r.isSome := by
  cases r with
  | none => exact off_false h
  | some v => exact off_true h
theorem MGood.run {ms : List MS} (hg : MGood ms) (x : TX) {i : Nat} (hi : i ≤ x.l.length) {t : Int} (h0 : 0 ≤ t) (h1 : t < ms.length) (gs : List Int) : ∃ r, Runs ms x t i gs r := by
  obtain ⟨u, rfl⟩ := Int.eq_ofNat_of_zero_le h0
  exact hg.runs x _ i (Nat.le_refl _) hi u u (Nat.le_refl _) (by omega) gs
/-- what comes off, state by state -/
theorem off_is {ms : List MS} (hg : MGood ms) (x : TX) {i : Nat} (hi : i ≤ x.l.length) {u : Nat} {m : MS} (hm : ms[u]? = some m) :
    (m.kind = 0 → off ms x u i = true) ∧ (m.kind = 1 → off ms x u i = ((decide (i < x.l.length) && takesC m.sp m.fo m.nt (x.rune i)) && off ms x m.next (i + 1))) ∧
    (m.kind = 2 → off ms x u i = (off ms x m.next i && edgeIs x m.edge i)) ∧ (m.kind = 3 → off ms x u i = off ms x m.next i) ∧ (m.kind = 4 → off ms x u i = (off ms x m.next i || off ms x m.other i)) := by
  have hu := (List.getElem?_eq_some_iff.1 hm).1
  obtain ⟨⟨k0, k4⟩, g1, g2, g3⟩ := hg u m hm
  refine ⟨fun e => off_true (Runs.done _ _ _ [] hm e), fun e => ?_, fun e => ?_, fun e => ?_, fun e => ?_⟩
  · by_cases ht : (decide (i < x.l.length) && takesC m.sp m.fo m.nt (x.rune i)) = true
    · have hlt : i < x.l.length := by simp at ht; exact ht.1
      obtain ⟨r, hr⟩ := hg.run x (i := i + 1) hlt (g1 e).1 (g1 e).2 []
      rw [off_eq (Runs.takeY _ _ _ _ _ hm e ht hr), off_eq hr, ht, Bool.true_and]
    · have ht := Bool.eq_false_iff.2 ht
      rw [off_eq (Runs.takeN _ _ _ [] hm e ht), ht]; rfl
  · have h2 := g2 (by omega)
    by_cases he : edgeIs x m.edge i = true
    · obtain ⟨r, hr⟩ := hg.run x hi h2.1 (by omega) []
      rw [off_eq (Runs.standY _ _ _ _ _ hm e he hr), off_eq hr, he, Bool.and_true]
    · have he := Bool.eq_false_iff.2 he
      rw [off_eq (Runs.standN _ _ _ [] hm e he), he, Bool.and_false]; rfl
  · have h2 := g2 (by omega)
    obtain ⟨r, hr⟩ := hg.run x hi h2.1 (by omega) (([] : List Int).set m.slot.toNat (x.bound i))
    rw [off_eq (Runs.mark _ _ _ _ _ hm e hr), off_eq hr]
  · have h2 := g2 (by omega)
    have h3 := g3 e
    obtain ⟨r, hr⟩ := hg.run x hi h2.1 (by omega) []
    obtain ⟨r', hr'⟩ := hg.run x hi h3.1 (by omega) []
    cases r with
    | some v => rw [off_eq (Runs.forkY _ _ _ _ _ hm e hr), off_eq hr]; rfl
    | none => rw [off_eq (Runs.forkN _ _ _ _ _ hm e hr hr'), off_eq hr, off_eq hr']; rfl
end Go.Proofs.YtnbfddjaonlmaaaGreatDoor
namespace Go.Proofs.YtnbfddjaonlmaaaGreatDoor
open Go.RowKit Go.Maps

/-- a value of type State: kind, set, edge, slot, next, other -/
structure Sv where
  k : Int
  sa : Option Addr
  sn : Nat
  sc : Nat
  ed : Int
  sl : Int
  nx : Int
  ot : Int
def Sv.cells (q : Sv) : Array Value := #[.int .i64 q.k, .slice q.sa q.sn q.sc, .int .i64 q.ed, .int .i64 q.sl, .int .i64 q.nx, .int .i64 q.ot]
def Sv.val (q : Sv) : Value := .agg q.cells
def flatS : List Sv → List Value
  | [] => []
  | q :: qs => q.cells.toList ++ flatS qs
theorem Sv.cells_length (q : Sv) : q.cells.toList.length = 6 := rfl
theorem flatS_append (a b : List Sv) : flatS (a ++ b) = flatS a ++ flatS b := by
  induction a with
  | nil => rfl
  | cons q qs ih => simp [flatS, ih]
theorem flatS_get (qs : List Sv) (i : Nat) (h : i < qs.length) (j : Nat) (hj : j < 6) : (flatS qs)[i * 6 + j]? = (qs[i]).cells[j]? := by
  induction qs generalizing i with
  | nil => simp at h
  | cons q qs ih =>
    cases i with
    | zero =>
      simp only [flatS, List.getElem_cons_zero]
      rw [List.getElem?_append_left (by rw [Sv.cells_length]; omega), show 0 * 6 + j = j by omega]
      simp
    | succ i =>
      have := ih i (by simpa using h)
      simp only [flatS, List.getElem_cons_succ]
      rw [List.getElem?_append_right (by rw [Sv.cells_length]; omega), Sv.cells_length, show (i + 1) * 6 + j - 6 = i * 6 + j by omega]
      exact this
theorem Sv.one (q : Sv) : ∀ u ∈ q.cells.toList, u.oneCell' = true := by
  intro u hu
  simp [Sv.cells] at hu
  rcases hu with rfl | rfl | rfl | rfl | rfl | rfl <;> rfl

/-- the value s is the state m -/
structure SvAt (w : World) (lo hi : Nat) (s : Sv) (m : MS) : Prop where
  k : s.k = m.kind
  ed : s.ed = m.edge
  sl : s.sl = m.slot
  nx : s.nx = m.next
  ot : s.ot = m.other
  kr : 0 ≤ m.kind ∧ m.kind ≤ 4
  set : m.kind = 1 → ∃ (S : Spans) (bs : Nat), s.sn = S.length ∧ (S ≠ [] → s.sa = some ⟨bs, 0, none⟩ ∧ lo ≤ bs ∧ bs < hi) ∧ Cells32 w bs S ∧ SetOf S m.sp m.fo m.nt ∧ RuneSp S ∧ S.length ≤ 6000
theorem SvAt.kept {w w' : World} {lo hi : Nat} {s : Sv} {m : MS} {K : Nat → Prop} (h : SvAt w lo hi s m) (k : Kept K w w') (hs : ∀ i, lo ≤ i → i < hi → ¬ K i) (hle : hi ≤ w.heap.size) : SvAt w' lo hi s m :=
  ⟨h.k, h.ed, h.sl, h.nx, h.ot, h.kr, fun e => by
    obtain ⟨S, bs, a1, a2, a3, a4⟩ := h.set e
    refine ⟨S, bs, a1, a2, fun i hi' => ?_, a4⟩
    have hne : S ≠ [] := by intro e; subst e; simp at hi'
    obtain ⟨_, b1, b2⟩ := a2 hne
    exact ⟨(k.cell (p := ⟨bs, i * 2, none⟩) (by show bs < _; omega) (hs bs b1 b2)).trans (a3 i hi').1, (k.cell (p := ⟨bs, i * 2 + 1, none⟩) (by show bs < _; omega) (hs bs b1 b2)).trans (a3 i hi').2⟩⟩

structure BdAt (w : World) (b lo hi : Nat) (v : Value) (st : List MS) : Prop where
  blk : Blk w b #[v] 90
  row : ∃ vs : List Sv, w.ownsRow (b + 1) 94 6 v st.length (flatS vs) ∧ vs.length = st.length ∧ ∀ i, (h : i < vs.length) → (h' : i < st.length) → SvAt w lo hi vs[i] st[i]
  hib : hi ≤ b
  few : st.length ≤ 10000
/-- the blocks of a builder -/
def Own (b : Nat) (v : Value) : Nat → Prop := fun i => i = b ∨ v.ownBlock = some i
theorem BdAt.slice {w : World} {b lo hi : Nat} {v : Value} {st : List MS} (h : BdAt w b lo hi v st) : ∃ ao c, v = .slice ao st.length c := by
  obtain ⟨vs, h1, _⟩ := h.row
  exact ownsRow_slice h1
theorem BdAt.block {w : World} {b lo hi : Nat} {v : Value} {st : List MS} (h : BdAt w b lo hi v st) {i : Nat} (hi' : v.ownBlock = some i) : b + 1 ≤ i ∧ i < w.heap.size := by
  obtain ⟨vs, h1, _⟩ := h.row
  exact ownsRow_block h1 hi'
theorem BdAt.own {w : World} {b lo hi : Nat} {v : Value} {st : List MS} (h : BdAt w b lo hi v st) {i : Nat} (hi' : Own b v i) : b ≤ i ∧ i < w.heap.size := by
  rcases hi' with rfl | hi'
  · exact ⟨Nat.le_refl _, h.blk.lt⟩
  · have := h.block hi'; omega
theorem BdAt.kept {w w' : World} {b lo hi : Nat} {v : Value} {st : List MS} {K : Nat → Prop} (h : BdAt w b lo hi v st) (k : Kept K w w') (hK : ∀ i, K i → ¬ Own b v i ∧ (i < lo ∨ hi ≤ i)) : BdAt w' b lo hi v st where
  blk := h.blk.kept k (fun hx => (hK b hx).1 (Or.inl rfl))
  row := by
    obtain ⟨vs, h1, h2, h3⟩ := h.row
    refine ⟨vs, ownsRow_kept h1 k (fun i hi' hx => (hK i hx).1 (Or.inr hi')), h2, fun i a1 a2 => (h3 i a1 a2).kept k (fun j j1 j2 hx => by have := (hK j hx).2; omega) (by have := h.hib; have := h.blk.lt; omega)⟩
  hib := h.hib
  few := h.few
theorem BdAt.new {w w' : World} {b lo hi : Nat} {v : Value} {st : List MS} (h : BdAt w b lo hi v st) (k : Kept Nil w w') : BdAt w' b lo hi v st := h.kept k (fun i hx => hx.elim)

structure Went (b : Nat) (w w' : World) (v v' : Value) : Prop where
  kept : Kept (Own b v) w w'
  blk : ∀ i, v'.ownBlock = some i → v.ownBlock = some i ∨ w.heap.size ≤ i
theorem Went.refl (b : Nat) (w : World) (v : Value) : Went b w w v v := ⟨Kept.refl _ _, fun i h => Or.inl h⟩
theorem Went.trans {b : Nat} {w w1 w2 : World} {v v1 v2 : Value} (h : Went b w w1 v v1) (h' : Went b w1 w2 v1 v2) : Went b w w2 v v2 where
  kept := h.kept.trans' h'.kept (fun i hi hx => by
    rcases hx with rfl | hx
    · exact Or.inl rfl
    · rcases h.blk i hx with h1 | h1
      · exact Or.inr h1
      · omega)
  blk i hi := by
    have hs := h.kept.size
    rcases h'.blk i hi with h1 | h1
    · exact h.blk i h1
    · right; omega
theorem Went.new {b : Nat} {w w1 w2 : World} {v v1 : Value} (h : Went b w w1 v v1) (k : Kept Nil w1 w2) : Went b w w2 v v1 := ⟨h.kept.trans' k (fun i _ hx => hx.elim), h.blk⟩
theorem Went.alloc {b : Nat} {w w1 : World} {v v1 : Value} (h : Went b w w1 v v1) (o : Obj) : Went b w (w1.alloc o) v v1 := ⟨h.kept.alloc o, h.blk⟩
theorem Went.apart {b : Nat} {w w' : World} {v v' : Value} (h : Went b w w' v v') {c : Nat} (hc : c < w.heap.size) (hn : ¬ Own b v c) : ¬ Own b v' c := by
  intro hx
  rcases hx with rfl | hx
  · exact hn (Or.inl rfl)
  · rcases h.blk c hx with h1 | h1
    · exact hn (Or.inr h1)
    · omega
theorem Went.cells {b : Nat} {w w' : World} {v v' : Value} (h : Went b w w' v v') {c : Nat} {cs : Array Value} {t : TypeId} (hB : Blk w c cs t) (hn : ¬ Own b v c) : Blk w' c cs t := hB.kept h.kept hn

theorem Tryz.infoState : (Tryz.prog.info? 94).map (fun i => (i.zero, i.size, i.bytes)) = some (some (.agg #[.int .i64 0, .slice none 0 0, .int .i64 0, .int .i64 0, .int .i64 0, .int .i64 0]), 6, 64) := by kernel_rfl

/-- an append to a row of the call's own, as one step of a region that draws its order -/
theorem step_append_own {P : Program} {ops : Array Oper} {o : Oper} {a : Act} {w : World} {K : Act → World → Prop} {Q : Exit → Act → World → Prop} {E : Prop}
    (hg : o.guard = none) (s x : Operand) (t : TypeId) (hop : o.op = .call { callee := .builtin .append, args := #[s, x], argTypes := #[t, t] })
    (base : Nat) (e : TypeId) (i : TypeInfo) (z : Value) (size bytes : Nat) (ht : P.underlying t = some (.slice e)) (hi : P.info? e = some i) (hz : i.zero = some z) (hsize : i.size = size) (hby : i.bytes = bytes) (hzs : z.cells.size = size) (hsz : 0 < size)
    (v : Value) (n : Nat) (xs : List Value) (hs : a.eval s = v) (hown : w.ownsRow base e size v n xs)
    (ad : Addr) (m c : Nat) (news : List Value) (hx : a.eval x = .slice (some ad) m c) (hl : news.length = m * size) (hnews : ∀ j u, news[j]? = some u → w.cell? (ad.add j) = some u) (h1 : ∀ u ∈ news, u.oneCell' = true)
    (h63 : n + m ≤ maxLen) (hbytes : (n + m) * bytes ≤ 140737488355328) (hbase : base ≤ w.heap.size)
    (hK : ∀ v' w', w'.ownsRow base e size v' (n + m) (xs ++ news) → w.grownBy w' v.ownBlock → (v'.ownBlock = v.ownBlock ∨ v'.ownBlock = some w.heap.size) → K (a.put o.dst v') w') :
    if Region.wanted o (yielded ops a.tmps) = true then Oper.wp P o a w K Q else E := by
  have hw : Region.wanted o (yielded ops a.tmps) = true := by simp [Region.wanted, hg]
  rw [if_pos hw]
  obtain ⟨v', w', hr, h2, h3, h4, h5⟩ := run_append_own_at (P := P) w base t o.type e i z size bytes ht hi hz hsize hby hzs hsz v n xs hown ad m c news hl hnews h1 h63 hbytes hbase
  unfold Oper.wp
  simp [execOp, hop, resolve, invoke, builtin, hs, hx, hr, Result.andThen]
  exact hK v' w' h2 h3 h5

/-- what comes of an append to a builder's states -/
theorem BdAt.grown {w W w7 : World} {b lo hi ao c n : Nat} {v v' : Value} {st : List MS} (h : BdAt w b lo hi v st) {s : Sv} {m : MS} (hs : SvAt w lo hi s m) (hfew : st.length < 10000) {vs : List Sv} (hrow : w.ownsRow (b + 1) 94 6 v st.length (flatS vs)) (hlen : vs.length = st.length)
    (hsv : ∀ i, (h : i < vs.length) → (h' : i < st.length) → SvAt w lo hi vs[i] st[i]) (k0 : Kept Nil w W)
    (hown' : w7.ownsRow (b + 1) 94 6 v' (st.length + 1) (flatS vs ++ s.cells.toList)) (hgrow : W.grownBy w7 v.ownBlock) (hloc : v'.ownBlock = v.ownBlock ∨ v'.ownBlock = some W.heap.size) :
    Blk w7 b #[v] 90 ∧ BdAt (w7.setCell ⟨b, 0, none⟩ v') b lo hi v' (st ++ [m]) ∧ Went b w (w7.setCell ⟨b, 0, none⟩ v') v v' := by
  have hlt := h.blk.lt
  have hszW := k0.size
  have k7 : Kept (fun i => v.ownBlock = some i) w w7 := (k0.mono (fun i hx => hx.elim)).grown hgrow (fun j hj => Or.inl hj)
  have hbn : v.ownBlock ≠ some b := fun e => by have := ownsRow_block hrow e; omega
  have b7 : Blk w7 b #[v] 90 := h.blk.kept k7 hbn
  have hsz7 := k7.size
  have hloc' : ∀ i, v'.ownBlock = some i → v.ownBlock = some i ∨ w.heap.size ≤ i := by
    intro i hi'
    rcases hloc with hl | hl
    · exact Or.inl (hl ▸ hi')
    · rw [hl] at hi'; cases hi'; right; omega
  have hvb : v'.ownBlock ≠ some b := fun e => by
    rcases hloc' b e with h1 | h1
    · exact hbn h1
    · omega
  have b8 : Blk (w7.setCell ⟨b, 0, none⟩ v') b #[v'] 90 := b7.setCell 0 v'
  have k8 : Kept (Own b v) w (w7.setCell ⟨b, 0, none⟩ v') := Kept.setCell (S := Own b v) (k7.mono (S' := Own b v) (fun i hi' => Or.inr hi')) (p := ⟨b, 0, none⟩) (Or.inl (Or.inl rfl)) _
  have o8 : (w7.setCell ⟨b, 0, none⟩ v').ownsRow (b + 1) 94 6 v' (st ++ [m]).length (flatS (vs ++ [s])) := by
    have h1 : (flatS (vs ++ [s])) = flatS vs ++ s.cells.toList := by rw [flatS_append]; simp [flatS]
    rw [h1, List.length_append]
    exact ownsRow_kept hown' ((Kept.refl (fun i => i = b) w7).setCell (p := ⟨b, 0, none⟩) (Or.inl rfl) v') (fun i hi' e => hvb (e ▸ hi'))
  have hib := h.hib
  have hnot : ∀ i, lo ≤ i → i < hi → ¬ Own b v i := fun i h1 h2 hx => by have := h.own hx; omega
  refine ⟨b7, ?_, ⟨k8, hloc'⟩⟩
  refine ⟨b8, ⟨vs ++ [s], o8, by simp [hlen], fun i h1 h2 => ?_⟩, hib, by simp; omega⟩
  by_cases hlt2 : i < st.length
  · have e1 : (vs ++ [s])[i] = vs[i]'(by omega) := List.getElem_append_left _
    have e2 : (st ++ [m])[i] = st[i] := List.getElem_append_left _
    rw [e1, e2]
    exact (hsv i (by omega) hlt2).kept k8 hnot (by omega)
  · have e : i = st.length := by simp at h2; omega
    subst e
    have e1 : (vs ++ [s])[st.length] = s := by simp [← hlen]
    have e2 : (st ++ [m])[st.length] = m := by simp
    rw [e1, e2]
    exact hs.kept k8 hnot (by omega)

theorem sv_news {w : World} (q : Sv) (j : Nat) (u : Value) (h : q.cells.toList[j]? = some u) : (w.alloc (.cells q.cells 94)).cell? (Addr.add ⟨w.heap.size, 0, none⟩ j) = some u := new32 w q.cells 94 j u h

theorem add_rd {w : World} {b lo hi : Nat} {v : Value} {st : List MS} (h : BdAt w b lo hi v st) {s : Sv} {m : MS} (hs : SvAt w lo hi s m) (hfew : st.length < 10000) :
    Calls Tryz.prog 33 #[.pointer (some ⟨b, 0, none⟩), Sv.val s] w fun e w' => e = .returned (.int .i64 st.length) ∧ ∃ v', BdAt w' b lo hi v' (st ++ [m]) ∧ Went b w w' v v' := by
  obtain ⟨i0, hi0, hz0, hz1, hz2⟩ := info_parts Tryz.infoState
  obtain ⟨ao, c, hv⟩ := h.slice
  have hlt := h.blk.lt
  obtain ⟨vs, hrow, hlen, hsv⟩ := h.row
  have c0 : w.cell? ⟨b, 0, none⟩ = some v := h.blk.cell 0
  have f0 : w.frozen? ⟨b, 0, none⟩ = false := h.blk.frozen 0
  have HR : Hid (∀ W, Kept Nil w W → W.ownsRow (b + 1) 94 6 v st.length (flatS vs)) := fun W k => ownsRow_kept hrow k (fun i _ hx => hx)
  have GR : Hid (∀ W w7 v', Kept Nil w W → w7.ownsRow (b + 1) 94 6 v' (st.length + 1) (flatS vs ++ s.cells.toList) → W.grownBy w7 v.ownBlock → (v'.ownBlock = v.ownBlock ∨ v'.ownBlock = some W.heap.size) → Blk w7 b #[v] 90 ∧ BdAt (w7.setCell ⟨b, 0, none⟩ v') b lo hi v' (st ++ [m]) ∧ Went b w (w7.setCell ⟨b, 0, none⟩ v') v v') :=
    fun W w7 v' k h1 h2 h3 => h.grown (ao := 0) (c := 0) (n := 0) hs hfew hrow hlen hsv k h1 h2 h3
  have NW : Hid (∀ j u, s.cells.toList[j]? = some u → (((w.alloc (.cells s.cells 94)).alloc (.cells s.cells 94)).drew).cell? (Addr.add ⟨w.heap.size + 1, 0, none⟩ j) = some u) := by
    intro j u hu
    have := sv_news (w := w.alloc (.cells s.cells 94)) s j u hu
    simpa using this
  clear h hs hsv hrow
  subst hv
  simp only [Sv.val, Sv.cells]
  go_enter Tryz.func33, Tryz.ntmps33
  go_wp2_with fail
  go_region_law (refine step_append_own rfl (.tmp 9) (.tmp 11) 63 rfl (b + 1) 94 i0 _ 6 64 Tryz.underlying63 hi0 hz0 hz1 hz2 rfl (by decide) _ _ _ rfl (HR.out _ (by repeat first | exact Kept.refl _ _ | apply Kept.alloc | apply Kept.drew | apply Kept.drewN)) ⟨w.heap.size + 1, 0, none⟩ 1 1 s.cells.toList rfl rfl NW.out s.one (by unfold maxLen; omega) (by omega) (by simp; omega) ?_; intro v' w7 ho hg hl; obtain ⟨ao', c', rfl⟩ := ownsRow_slice ho; obtain ⟨b7, fin, went⟩ := GR.out _ _ _ (by repeat first | exact Kept.refl _ _ | apply Kept.alloc | apply Kept.drew | apply Kept.drewN) ho hg hl; have c7 : w7.cell? ⟨b, 0, none⟩ = some (.slice ao st.length c) := b7.cell 0; have f7 : w7.frozen? ⟨b, 0, none⟩ = false := b7.frozen 0)
  all_goals
    clear HR GR NW
    go_wp2_with fail
    go_ret
    exact ⟨rfl, _, fin, went⟩
end Go.Proofs.YtnbfddjaonlmaaaGreatDoor
