/- The program's new numbers of states as a relation (a mirror of machine/order.go): they come to an end, and who goes on at a place goes on to lower numbers. Nothing of the program is proved here. -/
import Derived.Test.YtnbfddjaonlmaaaGreatDoorP15
namespace Go.Proofs.YtnbfddjaonlmaaaGreatDoor
set_option linter.unusedVariables false
set_option maxRecDepth 100000

/-- the new number of each state, the states by their new numbers, those to which a rune leads -/
structure VS where
  num : List Int
  ord : List Nat
  lat : List Nat
def VS.put (V : VS) (s : Nat) : VS := ⟨V.num.set s V.ord.length, V.ord ++ [s], V.lat⟩
def VS.late (V : VS) (t : Nat) : VS := ⟨V.num, V.ord, V.lat ++ [t]⟩

inductive Vis (M : List MS) : VS → Int → VS → Prop where
  | had (V : VS) (s : Nat) (v : Int) (h : V.num[s]? = some v) (hv : v ≠ -1) : Vis M V s V
  | stop (V : VS) (s : Nat) (m : MS) (hn : V.num[s]? = some (-1)) (h : M[s]? = some m) (hk : m.kind ≠ 1 ∧ m.kind ≠ 2 ∧ m.kind ≠ 3 ∧ m.kind ≠ 4) : Vis M V s (V.put s)
  | take (V : VS) (s : Nat) (m : MS) (hn : V.num[s]? = some (-1)) (h : M[s]? = some m) (hk : m.kind = 1) : Vis M V s ((V.late m.next.toNat).put s)
  | one (V V' : VS) (s : Nat) (m : MS) (hn : V.num[s]? = some (-1)) (h : M[s]? = some m) (hk : m.kind = 2 ∨ m.kind = 3) (hv : Vis M V m.next V') : Vis M V s (V'.put s)
  | two (V V' V2 : VS) (s : Nat) (m : MS) (hn : V.num[s]? = some (-1)) (h : M[s]? = some m) (hk : m.kind = 4) (hv : Vis M V m.next V') (hw : Vis M V' m.other V2) : Vis M V s (V2.put s)

/-- from s one goes on at the place to t -/
def Step (M : List MS) (s t : Int) : Prop := ∃ (j : Nat) (m : MS), s = j ∧ M[j]? = some m ∧ (((m.kind = 2 ∨ m.kind = 3 ∨ m.kind = 4) ∧ t = m.next) ∨ (m.kind = 4 ∧ t = m.other))
inductive Reach (M : List MS) : Int → Int → Prop where
  | refl (s : Int) : Reach M s s
  | step (s t u : Int) (h : Step M s t) (hr : Reach M t u) : Reach M s u
theorem Reach.trans {M : List MS} {a b c : Int} (h : Reach M a b) (h' : Reach M b c) : Reach M a c := by
  induction h with
  | refl s => exact h'
  | step s t u hs hr ih => exact Reach.step s t c hs (ih h')
theorem Ends.none_back {M : List MS} {s : Int} (h : Ends M s) : ∀ c, Step M s c → ¬ Reach M c s := by
  have key : ∀ {s c : Int}, Step M s c → (∀ d, Step M c d → ¬ Reach M d c) → ¬ Reach M c s := by
    intro s c hs ih hr
    cases hr with
    | refl => exact ih _ hs (Reach.refl _)
    | step _ d _ hd hr => exact ih d hd (hr.trans (Reach.step _ _ _ hs (Reach.refl _)))
  induction h with
  | stop s m hm hk =>
    rintro c ⟨j, m', hj, h1, h2⟩
    have : j = s := by omega
    subst this
    rw [hm] at h1
    cases h1
    omega
  | one s m hm hk hn ih =>
    intro c hc
    refine key hc ?_
    obtain ⟨j, m', hj, h1, h2⟩ := hc
    have : j = s := by omega
    subst this
    rw [hm] at h1
    cases h1
    rcases h2 with h2 | h2
    · rw [h2.2]; exact ih
    · omega
  | two s m hm hk hn ho ih ih' =>
    intro c hc
    refine key hc ?_
    obtain ⟨j, m', hj, h1, h2⟩ := hc
    have : j = s := by omega
    subst this
    rw [hm] at h1
    cases h1
    rcases h2 with h2 | h2
    · rw [h2.2]; exact ih
    · rw [h2.2]; exact ih'

/-- what holds of the numbers at any time -/
structure VInv (M : List MS) (R : Nat → Prop) (V : VS) : Prop where
  len : V.num.length = M.length
  cnt : V.ord.length = V.num.countP (fun v => v != -1)
  has : ∀ (s : Nat) (v : Int), V.num[s]? = some v → v ≠ -1 → ∃ k : Nat, v = k ∧ V.ord[k]? = some s
  at_ : ∀ (k s : Nat), V.ord[k]? = some s → V.num[s]? = some (k : Int)
  inR : ∀ s ∈ V.ord, R s
  lat : ∀ t ∈ V.lat, R t
  next : ∀ (k s : Nat) (m : MS), V.ord[k]? = some s → M[s]? = some m → (m.kind = 1 → m.next.toNat ∈ V.lat) ∧ (∀ t, Step M s t → ∃ k' : Nat, k' < k ∧ V.num[t.toNat]? = some (k' : Int))
/-- more was numbered, and only what s comes to -/
structure VExt (M : List MS) (s : Int) (V V' : VS) : Prop where
  ord : ∃ l, V'.ord = V.ord ++ l ∧ ∀ t ∈ l, Reach M s (t : Int)
  lat : ∃ l, V'.lat = V.lat ++ l
theorem VExt.refl (M : List MS) (s : Int) (V : VS) : VExt M s V V := ⟨⟨[], by simp, fun t h => by simp at h⟩, ⟨[], by simp⟩⟩
theorem VExt.trans {M : List MS} {s t u : Int} {V V' V2 : VS} (h : VExt M s V V') (h' : VExt M t V' V2) (hs : Reach M u s) (ht : Reach M u t) : VExt M u V V2 := by
  obtain ⟨⟨l, h1, h2⟩, ⟨l', h3⟩⟩ := h
  obtain ⟨⟨k, k1, k2⟩, ⟨k', k3⟩⟩ := h'
  refine ⟨⟨l ++ k, by rw [k1, h1, List.append_assoc], fun x hx => ?_⟩, ⟨l' ++ k', by rw [k3, h3, List.append_assoc]⟩⟩
  rcases List.mem_append.1 hx with hx | hx
  · exact hs.trans (h2 x hx)
  · exact ht.trans (k2 x hx)
theorem VInv.num_ext {M : List MS} {R : Nat → Prop} {V V' : VS} {s : Int} (h : VInv M R V) (h' : VInv M R V') (e : VExt M s V V') {t : Nat} {v : Int} (ht : V.num[t]? = some v) (hv : v ≠ -1) : V'.num[t]? = some v := by
  obtain ⟨k, rfl, hk⟩ := h.has t v ht hv
  obtain ⟨⟨l, h1, _⟩, _⟩ := e
  refine h'.at_ k t ?_
  rw [h1, List.getElem?_append_left (List.getElem?_eq_some_iff.1 hk).1]
  exact hk
/-- a state that s does not come to is not numbered meanwhile -/
theorem VInv.still_no {M : List MS} {R : Nat → Prop} {V V' : VS} {s : Int} (h : VInv M R V) (h' : VInv M R V') (e : VExt M s V V') {t : Nat} (ht : V.num[t]? = some (-1)) (hr : ¬ Reach M s t) : V'.num[t]? = some (-1) := by
  have hlt : t < V'.num.length := by rw [h'.len, ← h.len]; exact (List.getElem?_eq_some_iff.1 ht).1
  have hv : V'.num[t]? = some V'.num[t] := List.getElem?_eq_getElem hlt
  by_cases hn : V'.num[t] = -1
  · rw [hv, hn]
  · exfalso
    obtain ⟨k, e1, hk⟩ := h'.has t _ hv hn
    obtain ⟨⟨l, h1, h2⟩, _⟩ := e
    rw [h1] at hk
    by_cases hlt2 : k < V.ord.length
    · rw [List.getElem?_append_left hlt2] at hk
      have := h.at_ k t hk
      rw [ht] at this
      cases this
    · rw [List.getElem?_append_right (by omega)] at hk
      exact hr (h2 t (List.mem_of_getElem? hk))

theorem VInv.put {M : List MS} {R : Nat → Prop} {V : VS} (h : VInv M R V) {s : Nat} (hn : V.num[s]? = some (-1)) (hR : R s)
    (hs : ∀ m, M[s]? = some m → (m.kind = 1 → m.next.toNat ∈ V.lat) ∧ (∀ t, Step M s t → ∃ k' : Nat, V.num[t.toNat]? = some (k' : Int))) : VInv M R (V.put s) := by
  have hlt := (List.getElem?_eq_some_iff.1 hn).1
  have hget : ∀ t : Nat, (V.put s).num[t]? = if t = s then some (V.ord.length : Int) else V.num[t]? := by
    intro t
    show (V.num.set s (V.ord.length : Int))[t]? = _
    by_cases e : t = s
    · subst e; rw [List.getElem?_set_self hlt, if_pos rfl]
    · rw [List.getElem?_set_ne (fun e' => e e'.symm), if_neg e]
  have hold : ∀ (k t : Nat), V.ord[k]? = some t → t ≠ s := by
    intro k t hk e
    subst e
    have := h.at_ k t hk
    rw [hn] at this
    cases this
  refine ⟨by show (V.num.set s _).length = _; rw [List.length_set]; exact h.len, ?_, fun t v ht hv => ?_, fun k t hk => ?_, fun t ht => ?_, h.lat, fun k t m hk hm => ?_⟩
  · show (V.ord ++ [s]).length = (V.num.set s (V.ord.length : Int)).countP _
    have e : V.num[s] = -1 := by
      have := List.getElem?_eq_getElem hlt
      rw [hn] at this
      exact (Option.some.inj this).symm
    rw [List.countP_set hlt, e, ← h.cnt]
    have : ((V.ord.length : Int) != -1) = true := by simp
    simp [this]
  · rw [hget] at ht
    by_cases e : t = s
    · rw [if_pos e] at ht
      cases ht
      exact ⟨V.ord.length, rfl, by show (V.ord ++ [s])[V.ord.length]? = _; simp [e]⟩
    · rw [if_neg e] at ht
      obtain ⟨k, e1, hk⟩ := h.has t v ht hv
      exact ⟨k, e1, by show (V.ord ++ [s])[k]? = _; rw [List.getElem?_append_left (List.getElem?_eq_some_iff.1 hk).1]; exact hk⟩
  · rw [hget]
    have hk' : (V.ord ++ [s])[k]? = some t := hk
    by_cases hlt2 : k < V.ord.length
    · rw [List.getElem?_append_left hlt2] at hk'
      rw [if_neg (hold k t hk')]
      exact h.at_ k t hk'
    · have : k = V.ord.length := by
        have := (List.getElem?_eq_some_iff.1 hk').1
        simp at this
        omega
      subst this
      simp at hk'
      rw [if_pos hk'.symm]
  · have : t ∈ V.ord ++ [s] := ht
    rcases List.mem_append.1 this with h1 | h1
    · exact h.inR t h1
    · simp at h1; subst h1; exact hR
  · have hk' : (V.ord ++ [s])[k]? = some t := hk
    by_cases hlt2 : k < V.ord.length
    · rw [List.getElem?_append_left hlt2] at hk'
      obtain ⟨a1, a2⟩ := h.next k t m hk' hm
      refine ⟨a1, fun u hu => ?_⟩
      obtain ⟨k', h1, h2⟩ := a2 u hu
      refine ⟨k', h1, ?_⟩
      rw [hget]
      by_cases e : u.toNat = s
      · rw [e, hn] at h2; cases h2
      · rw [if_neg e]; exact h2
    · have : k = V.ord.length := by
        have := (List.getElem?_eq_some_iff.1 hk').1
        simp at this
        omega
      subst this
      simp at hk'
      subst hk'
      obtain ⟨a1, a2⟩ := hs m hm
      refine ⟨a1, fun u hu => ?_⟩
      obtain ⟨k', h2⟩ := a2 u hu
      have hkk := h.has u.toNat k' h2 (by omega)
      obtain ⟨k2, e2, h3⟩ := hkk
      refine ⟨k', by have := (List.getElem?_eq_some_iff.1 h3).1; omega, ?_⟩
      rw [hget]
      by_cases e : u.toNat = s
      · rw [e, hn] at h2; cases h2
      · rw [if_neg e]; exact h2
theorem VExt.put {M : List MS} {s : Int} {V V' : VS} (h : VExt M s V V') {t : Nat} (ht : Reach M s t) : VExt M s V (V'.put t) := by
  obtain ⟨⟨l, h1, h2⟩, ⟨l', h3⟩⟩ := h
  refine ⟨⟨l ++ [t], by show V'.ord ++ [t] = _; rw [h1, List.append_assoc], fun x hx => ?_⟩, ⟨l', h3⟩⟩
  rcases List.mem_append.1 hx with hx | hx
  · exact h2 x hx
  · simp at hx; subst hx; exact ht
theorem VS.put_num {V : VS} {s : Nat} (h : s < V.num.length) : (V.put s).num[s]? = some (V.ord.length : Int) := List.getElem?_set_self h

/-- R: states that are closed under what they lead to, all of which come to an end -/
structure Shut (M : List MS) (R : Nat → Prop) : Prop where
  ends : ∀ s : Nat, R s → Ends M s
  cl : ∀ s : Nat, R s → ∃ m, M[s]? = some m ∧ Succs (fun t => ∃ j : Nat, t = j ∧ R j) m

theorem VInv.late {M : List MS} {R : Nat → Prop} {V : VS} (h : VInv M R V) {t : Nat} (ht : R t) : VInv M R (V.late t) :=
  ⟨h.len, h.cnt, h.has, h.at_, h.inR, fun x hx => by
    rcases List.mem_append.1 (show x ∈ V.lat ++ [t] from hx) with h1 | h1
    · exact h.lat x h1
    · simp at h1; subst h1; exact ht, fun k s m a b => ⟨fun c => List.mem_append_left _ ((h.next k s m a b).1 c), (h.next k s m a b).2⟩⟩
theorem Step.kind {M : List MS} {s : Nat} {t : Int} {m : MS} (h : Step M s t) (hm : M[s]? = some m) : ((m.kind = 2 ∨ m.kind = 3 ∨ m.kind = 4) ∧ t = m.next) ∨ (m.kind = 4 ∧ t = m.other) := by
  obtain ⟨j, m', hj, h1, h2⟩ := h
  have : j = s := by omega
  subst this
  rw [hm] at h1
  cases h1
  exact h2
theorem Shut.numbered {M : List MS} {R : Nat → Prop} (hS : Shut M R) {V : VS} {s : Nat} (hV : VInv M R V) (hR : R s) : (∃ k : Nat, V.num[s]? = some (k : Int)) ∨ V.num[s]? = some (-1) := by
  obtain ⟨m, hm, _⟩ := hS.cl s hR
  have hlt : s < V.num.length := by rw [hV.len]; exact (List.getElem?_eq_some_iff.1 hm).1
  have hv : V.num[s]? = some V.num[s] := List.getElem?_eq_getElem hlt
  by_cases e : V.num[s] = -1
  · right; rw [hv, e]
  · left
    obtain ⟨k, e1, _⟩ := hV.has s _ hv e
    exact ⟨k, by rw [hv, e1]⟩

theorem visit_is {M : List MS} {R : Nat → Prop} (hS : Shut M R) {s : Int} (hE : Ends M s) : ∀ V, VInv M R V → (∃ j : Nat, s = j ∧ R j) →
    ∃ V', Vis M V s V' ∧ VInv M R V' ∧ VExt M s V V' ∧ (∃ k : Nat, V'.num[s.toNat]? = some (k : Int)) ∧ V'.lat.length + V.ord.length ≤ V.lat.length + V'.ord.length := by
  induction hE with
  | stop s m hm hk =>
    rintro V hV ⟨j, hj, hR⟩
    have : j = s := by omega
    subst this
    rcases hS.numbered hV hR with ⟨k, h1⟩ | hn
    · exact ⟨V, Vis.had V j k h1 (by omega), hV, VExt.refl M _ V, ⟨k, by simpa using h1⟩, Nat.le_refl _⟩
    · have hlt := (List.getElem?_eq_some_iff.1 hn).1
      by_cases k1 : m.kind = 1
      · obtain ⟨m', hm', hc⟩ := hS.cl j hR
        rw [hm] at hm'; cases hm'
        obtain ⟨t, ht, hRt⟩ := hc.1 (Or.inl k1)
        have hV' : VInv M R (V.late m.next.toNat) := hV.late (by rw [ht]; simpa using hRt)
        have e1 : VExt M (j : Int) V (V.late m.next.toNat) := ⟨⟨[], by simp [VS.late], fun t h => by simp at h⟩, ⟨[m.next.toNat], rfl⟩⟩
        refine ⟨(V.late m.next.toNat).put j, Vis.take V j m hn hm k1, hV'.put hn hR (fun m' hm' => ?_), e1.put (Reach.refl _), ⟨V.ord.length, by simpa using (show ((V.late m.next.toNat).put j).num[j]? = some (V.ord.length : Int) from VS.put_num (V := V.late m.next.toNat) hlt)⟩, ?_⟩
        · rw [hm] at hm'; cases hm'
          exact ⟨fun _ => by show m.next.toNat ∈ V.lat ++ [m.next.toNat]; simp, fun t ht => by have := ht.kind hm; omega⟩
        · show (V.lat ++ [m.next.toNat]).length + V.ord.length ≤ V.lat.length + (V.ord ++ [j]).length
          simp only [List.length_append, List.length_cons, List.length_nil]
          omega
      · refine ⟨V.put j, Vis.stop V j m hn hm ⟨k1, hk⟩, hV.put hn hR (fun m' hm' => ?_), (VExt.refl M _ V).put (Reach.refl _), ⟨V.ord.length, by simpa using VS.put_num hlt⟩, ?_⟩
        · rw [hm] at hm'; cases hm'
          exact ⟨fun e => absurd e k1, fun t ht => by have := ht.kind hm; omega⟩
        · show V.lat.length + V.ord.length ≤ V.lat.length + (V.ord ++ [j]).length
          simp only [List.length_append, List.length_cons, List.length_nil]
          omega
  | one s m hm hk hn ih =>
    rintro V hV ⟨j, hj, hR⟩
    have : j = s := by omega
    subst this
    have hback := (Ends.one j m hm hk hn).none_back
    have hst : Step M j m.next := ⟨j, m, rfl, hm, Or.inl ⟨by omega, rfl⟩⟩
    rcases hS.numbered hV hR with ⟨k, h1⟩ | hnu
    · exact ⟨V, Vis.had V j k h1 (by omega), hV, VExt.refl M _ V, ⟨k, by simpa using h1⟩, Nat.le_refl _⟩
    · have hlt := (List.getElem?_eq_some_iff.1 hnu).1
      obtain ⟨m', hm', hc⟩ := hS.cl j hR
      rw [hm] at hm'; cases hm'
      obtain ⟨V', v1, v2, v3, ⟨k, v4⟩, v5⟩ := ih V hV (hc.1 (by omega))
      have hno := hV.still_no v2 v3 hnu (hback _ hst)
      have e3 : VExt M (j : Int) V V' := (VExt.refl M (j : Int) V).trans v3 (Reach.refl _) (Reach.step _ _ _ hst (Reach.refl _))
      refine ⟨V'.put j, Vis.one V V' j m hnu hm hk v1, v2.put hno hR (fun m' hm' => ?_), e3.put (Reach.refl _), ⟨V'.ord.length, by simpa using VS.put_num (V := V') (by rw [v2.len, ← hV.len]; exact hlt)⟩, ?_⟩
      · rw [hm] at hm'; cases hm'
        refine ⟨fun e => by omega, fun t ht => ?_⟩
        have := ht.kind hm
        have e : t = m.next := by omega
        rw [e]
        exact ⟨k, v4⟩
      · show V'.lat.length + V.ord.length ≤ V.lat.length + (V'.ord ++ [j]).length
        simp only [List.length_append, List.length_cons, List.length_nil]
        omega
  | two s m hm hk hn ho ih ih' =>
    rintro V hV ⟨j, hj, hR⟩
    have : j = s := by omega
    subst this
    have hback := (Ends.two j m hm hk hn ho).none_back
    have hst : Step M j m.next := ⟨j, m, rfl, hm, Or.inl ⟨by omega, rfl⟩⟩
    have hst' : Step M j m.other := ⟨j, m, rfl, hm, Or.inr ⟨by omega, rfl⟩⟩
    rcases hS.numbered hV hR with ⟨k, h1⟩ | hnu
    · exact ⟨V, Vis.had V j k h1 (by omega), hV, VExt.refl M _ V, ⟨k, by simpa using h1⟩, Nat.le_refl _⟩
    · have hlt := (List.getElem?_eq_some_iff.1 hnu).1
      obtain ⟨m', hm', hc⟩ := hS.cl j hR
      rw [hm] at hm'; cases hm'
      obtain ⟨V', v1, v2, v3, ⟨k, v4⟩, v5⟩ := ih V hV (hc.1 (by omega))
      obtain ⟨V2, w1, w2, w3, ⟨k', w4⟩, w5⟩ := ih' V' v2 (hc.2 hk)
      have hno := v2.still_no w2 w3 (hV.still_no v2 v3 hnu (hback _ hst)) (hback _ hst')
      have e3 : VExt M (j : Int) V V2 := v3.trans w3 (Reach.step _ _ _ hst (Reach.refl _)) (Reach.step _ _ _ hst' (Reach.refl _))
      refine ⟨V2.put j, Vis.two V V' V2 j m hnu hm hk v1 w1, w2.put hno hR (fun m' hm' => ?_), e3.put (Reach.refl _), ⟨V2.ord.length, by simpa using VS.put_num (V := V2) (by rw [w2.len, ← hV.len]; exact hlt)⟩, ?_⟩
      · rw [hm] at hm'; cases hm'
        refine ⟨fun e => by omega, fun t ht => ?_⟩
        have := ht.kind hm
        by_cases e : t = m.next
        · rw [e]
          exact ⟨k, v2.num_ext w2 w3 v4 (by omega)⟩
        · have e : t = m.other := by omega
          rw [e]
          exact ⟨k', w4⟩
      · show V2.lat.length + V.ord.length ≤ V.lat.length + (V2.ord ++ [j]).length
        simp only [List.length_append, List.length_cons, List.length_nil]
        omega

/-- all to which a rune leads -/
inductive Lates (M : List MS) : Nat → VS → VS → Prop where
  | done (at_ : Nat) (V : VS) (h : V.lat.length ≤ at_) : Lates M at_ V V
  | step (at_ : Nat) (V V' V2 : VS) (t : Nat) (h : V.lat[at_]? = some t) (hv : Vis M V t V') (hl : Lates M (at_ + 1) V' V2) : Lates M at_ V V2

theorem VInv.ord_few {M : List MS} {R : Nat → Prop} {V : VS} (h : VInv M R V) : V.ord.length ≤ M.length := by
  rw [h.cnt, ← h.len]
  exact List.countP_le_length

theorem lates_is {M : List MS} {R : Nat → Prop} (hS : Shut M R) : ∀ (n at_ : Nat) (V : VS), M.length + 2 - at_ ≤ n → VInv M R V → at_ ≤ V.lat.length → V.lat.length ≤ 1 + V.ord.length → (∀ k t : Nat, k < at_ → V.lat[k]? = some t → ∃ u : Nat, V.num[t]? = some (u : Int)) →
    ∃ V', Lates M at_ V V' ∧ VInv M R V' ∧ (∃ l, V'.lat = V.lat ++ l) ∧ ∀ t ∈ V'.lat, ∃ u : Nat, V'.num[t]? = some (u : Int)
  | 0, at_, V, hn, hV, hle, hfew, hdone => by
    have := hV.ord_few
    omega
  | n + 1, at_, V, hn, hV, hle, hfew, hdone => by
    by_cases hlt : at_ < V.lat.length
    · have ht : V.lat[at_]? = some V.lat[at_] := List.getElem?_eq_getElem hlt
      have hR := hV.lat _ (List.getElem_mem hlt)
      obtain ⟨V', v1, v2, v3, ⟨k, v4⟩, v5⟩ := visit_is hS (hS.ends _ hR) V hV ⟨_, rfl, hR⟩
      obtain ⟨l, hl⟩ := v3.lat
      have hlen : V'.lat.length = V.lat.length + l.length := by rw [hl, List.length_append]
      obtain ⟨V2, w1, w2, ⟨l', w3⟩, w4⟩ := lates_is hS n (at_ + 1) V' (by omega) v2 (by omega) (by omega) (fun i t hi hit => by
        have hi2 : i < V.lat.length := by omega
        rw [hl, List.getElem?_append_left hi2] at hit
        by_cases e : i = at_
        · subst e
          rw [ht] at hit
          cases hit
          exact ⟨k, by simpa using v4⟩
        · obtain ⟨u, hu⟩ := hdone i t (by omega) hit
          exact ⟨u, hV.num_ext v2 v3 hu (by omega)⟩)
      exact ⟨V2, Lates.step at_ V V' V2 _ ht v1 w1, w2, ⟨l ++ l', by rw [w3, hl, List.append_assoc]⟩, w4⟩
    · refine ⟨V, Lates.done at_ V (by omega), hV, ⟨[], by simp⟩, fun t ht => ?_⟩
      obtain ⟨i, hi, rfl⟩ := List.getElem_of_mem ht
      exact hdone i _ (by omega) (List.getElem?_eq_getElem hi)

/-- the numbers at the beginning -/
def VS.first (n start : Nat) : VS := ⟨List.replicate n (-1), [], [start]⟩
theorem VInv.first {M : List MS} {R : Nat → Prop} {start : Nat} (h : R start) : VInv M R (VS.first M.length start) where
  len := by simp [VS.first]
  cnt := by simp [VS.first, List.countP_replicate]
  has s v h1 h2 := by
    have : v = -1 := by
      have := List.mem_of_getElem? h1
      simp [VS.first] at this
      exact this.2
    exact absurd this h2
  at_ k s h1 := by simp [VS.first] at h1
  inR s h1 := by simp [VS.first] at h1
  lat t h1 := by simp [VS.first] at h1; subst h1; exact h
  next k s m h1 := by simp [VS.first] at h1

/-- the states in their new order -/
def sorted (M : List MS) (V : VS) : List MS := V.ord.map fun s => { M.getD s zeroS with next := V.num.getD (M.getD s zeroS).next.toNat 0, other := V.num.getD (M.getD s zeroS).other.toNat 0 }
theorem order_is {M : List MS} {R : Nat → Prop} (hS : Shut M R) {start : Nat} (h : R start) : ∃ V, Lates M 0 (VS.first M.length start) V ∧ VInv M R V ∧ ∀ t, (t = start ∨ ∃ (s : Nat) (m : MS), s ∈ V.ord ∧ M[s]? = some m ∧ m.kind = 1 ∧ t = m.next.toNat) → ∃ u : Nat, V.num[t]? = some (u : Int) := by
  obtain ⟨V, h1, h2, ⟨l, h3⟩, h4⟩ := lates_is hS (M.length + 2) 0 (VS.first M.length start) (by omega) (VInv.first h) (Nat.zero_le _) (by simp [VS.first]) (fun k t hk => by omega)
  refine ⟨V, h1, h2, fun t ht => h4 t ?_⟩
  rcases ht with rfl | ⟨s, m, hs, hm, hk, rfl⟩
  · rw [h3]; simp [VS.first]
  · obtain ⟨k, hk', hs'⟩ := List.getElem_of_mem hs
    exact (h2.next k s m (by rw [List.getElem?_eq_getElem hk', hs']) hm).1 hk

/-- the machine of a piece: its states, ahead of their order -/
def built (C : CT) : List MS × Ex := bPiece C [⟨0, [], false, false, 0, 0, 0, 0⟩] (0, 0)
theorem built_shut {C : CT} (h : C.ok) (hs : C.sz ≤ 1000) : ∃ R, Shut (built C).1 R ∧ (∃ j : Nat, (built C).2.2 = j ∧ R j) ∧ AllOk (built C).1 ∧ 1 ≤ (built C).1.length ∧ (built C).1.length ≤ 4001 := by
  have hb := bPiece_bs C h hs
  have hx : XOk [zeroS].length (0, 0) := by unfold XOk; simp
  have g := hb.grow [zeroS] (0, 0)
  have f := hb.few [zeroS] (0, 0)
  have hn := CT.sz_nonneg C h
  have ha := hb.aok [zeroS] (0, 0) hx (by intro m hm; simp at hm; subst hm; unfold SOk zeroS; simp)
  obtain ⟨N, hN⟩ := hb.sub [zeroS] (0, 0) hx (built C).1 (fun j _ _ => rfl)
  have h0 : (built C).1[0]? = some zeroS := by
    have := get_grow g.2 (j := 0) (by simp)
    exact this
  have e0 : Ends (built C).1 ((0 : Nat) : Int) := Ends.stop 0 zeroS h0 (by simp [zeroS])
  have lift : ∀ {t : Int}, InX N (0, 0) t → ∃ j : Nat, t = j ∧ (N j ∨ j = 0) := by
    intro t ht
    rcases ht with ⟨j, h1, h2⟩ | h1 | ⟨h1, _⟩
    · exact ⟨j, h1, Or.inl h2⟩
    · exact ⟨0, h1, Or.inr rfl⟩
    · exact ⟨0, h1, Or.inr rfl⟩
  refine ⟨fun j => N j ∨ j = 0, ⟨fun s hs => ?_, fun s hs => ?_⟩, lift hN.in2, ha, g.1, ?_⟩
  · rcases hs with hs | rfl
    · exact hN.es e0 (Or.inr e0) s hs
    · exact e0
  · rcases hs with hs | rfl
    · obtain ⟨m, h1, h2⟩ := hN.cl s hs
      exact ⟨m, h1, h2.mono (fun t ht => lift ht)⟩
    · exact ⟨zeroS, h0, fun h => by simp [zeroS] at h, fun h => by simp [zeroS] at h⟩
  · show (bPiece C [zeroS] (0, 0)).1.length ≤ 4001
    simp only [List.length_cons, List.length_nil] at f
    omega
end Go.Proofs.YtnbfddjaonlmaaaGreatDoor
