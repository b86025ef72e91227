/- A node of the program in memory: 'PTAt w lo hi v T': the value v is the piece T, and all arrays that it leads to lie in blocks from lo up to hi; 'PsAt': a list of pieces that the call itself is making. -/
import Derived.Test.YtlimhofdonkljaaRd4
import Derived.Maps.AppendAt
namespace Go.Proofs.Ytlimhofdonkljaa
open Go.RowKit Go.Maps
set_option linter.unusedVariables false

abbrev Quad := Value × Value × Value × Value
def Quad.val (q : Quad) : Value := .agg #[q.1, q.2.1, q.2.2.1, q.2.2.2]

inductive PTAt (w : World) (lo hi : Nat) : Value → PT → Prop where
  | mk (k l h : Int) (ao : Option Addr) (cap b : Nat) (ts : List PT) (V : Nat → Quad)
      (hb : ts ≠ [] → ao = some ⟨b, 0, none⟩ ∧ lo ≤ b ∧ b < hi)
      (hc : ∀ i, i < ts.length → w.cell? ⟨b, 4 * i, none⟩ = some (V i).1 ∧ w.cell? ⟨b, 4 * i + 1, none⟩ = some (V i).2.1 ∧ w.cell? ⟨b, 4 * i + 2, none⟩ = some (V i).2.2.1 ∧ w.cell? ⟨b, 4 * i + 3, none⟩ = some (V i).2.2.2)
      (hk : ∀ i, (h : i < ts.length) → PTAt w lo hi (V i).val ts[i])
      (hr : (-1 ≤ l ∧ l ≤ 99) ∧ (-1 ≤ h ∧ h ≤ 99) ∧ ts.length ≤ 400 ∧ (k = 0 ∨ k = 1 ∨ k = 2 ∨ (k = 3 ∧ ts ≠ []) ∨ k = 4)) :
      PTAt w lo hi (.agg #[.int .i64 k, .slice ao ts.length cap, .int .i64 l, .int .i64 h]) (.node k ts l h)

theorem PTAt.kept {w w' : World} {lo hi : Nat} {v : Value} {T : PT} {S : Nat → Prop} (h : PTAt w lo hi v T) (k : Kept S w w') (hs : ∀ i, lo ≤ i → i < hi → ¬ S i) (hle : hi ≤ w.heap.size) : PTAt w' lo hi v T := by
  induction h with
  | mk kk l hh ao cap b ts V hb hc hk hr ih =>
    refine PTAt.mk kk l hh ao cap b ts V hb (fun i hi' => ?_) (fun i hi' => ih i hi') hr
    have hne : ts ≠ [] := by intro e; subst e; simp at hi'
    obtain ⟨_, b1, b2⟩ := hb hne
    have hcc := hc i hi'
    refine ⟨?_, ?_, ?_, ?_⟩ <;> rw [k.cell (p := ⟨b, _, none⟩) (by show b < _; omega) (hs b b1 b2)]
    · exact hcc.1
    · exact hcc.2.1
    · exact hcc.2.2.1
    · exact hcc.2.2.2

theorem PTAt.widen {w : World} {lo hi lo' hi' : Nat} {v : Value} {T : PT} (h : PTAt w lo hi v T) (h1 : lo' ≤ lo) (h2 : hi ≤ hi') : PTAt w lo' hi' v T := by
  induction h with
  | mk kk l hh ao cap b ts V hb hc hk hr ih =>
    exact PTAt.mk kk l hh ao cap b ts V (fun hne => by obtain ⟨a, b1, b2⟩ := hb hne; exact ⟨a, by omega, by omega⟩) hc (fun i hi' => ih i hi') hr

theorem PTAt.single (w : World) (lo hi : Nat) : PTAt w lo hi (.agg #[.int .i64 0, .slice none 0 0, .int .i64 0, .int .i64 0]) single :=
  PTAt.mk 0 0 0 none 0 0 [] (fun _ => (undef, undef, undef, undef)) (fun h => absurd rfl h) (fun i h => by simp at h) (fun i h => by simp at h) (by simp)

/-- the value of a piece is four cells -/
theorem PTAt.quad {w : World} {lo hi : Nat} {v : Value} {T : PT} (h : PTAt w lo hi v T) : ∃ k ao n cap l h, v = .agg #[.int .i64 k, .slice ao n cap, .int .i64 l, .int .i64 h] := by
  cases h; exact ⟨_, _, _, _, _, _, rfl⟩

/-! ## a list of pieces -/
def flat : List Quad → List Value
  | [] => []
  | q :: qs => q.1 :: q.2.1 :: q.2.2.1 :: q.2.2.2 :: flat qs
theorem flat_append (a b : List Quad) : flat (a ++ b) = flat a ++ flat b := by
  induction a with
  | nil => rfl
  | cons q qs ih => simp [flat, ih]
theorem flat_length (a : List Quad) : (flat a).length = a.length * 4 := by
  induction a with
  | nil => rfl
  | cons q qs ih => simp [flat, ih]; omega
theorem flat_get (qs : List Quad) (i : Nat) (h : i < qs.length) : (flat qs)[4 * i]? = some qs[i].1 ∧ (flat qs)[4 * i + 1]? = some qs[i].2.1 ∧ (flat qs)[4 * i + 2]? = some qs[i].2.2.1 ∧ (flat qs)[4 * i + 3]? = some qs[i].2.2.2 := by
  induction qs generalizing i with
  | nil => simp at h
  | cons q qs ih =>
    cases i with
    | zero => simp [flat]
    | succ i =>
      have hi : i < qs.length := by simpa using h
      have := ih i hi
      simp only [flat, List.getElem_cons_succ]
      rw [show 4 * (i + 1) = 4 * i + 1 + 1 + 1 + 1 by omega, show 4 * i + 1 + 1 + 1 + 1 + 1 = (4 * i + 1) + 1 + 1 + 1 + 1 by omega, show 4 * i + 1 + 1 + 1 + 1 + 2 = (4 * i + 2) + 1 + 1 + 1 + 1 by omega, show 4 * i + 1 + 1 + 1 + 1 + 3 = (4 * i + 3) + 1 + 1 + 1 + 1 by omega]
      simpa using this

/-- the slice v is the call's own list of the pieces ts; base: the first block of the call's own -/
structure PsAt (w : World) (base : Nat) (v : Value) (qs : List Quad) (ts : List PT) : Prop where
  own : w.ownsRow base 53 4 v ts.length (flat qs)
  len : qs.length = ts.length
  few : ts.length ≤ 400
  kid : ∀ i, (h : i < ts.length) → (h' : i < qs.length) → ∃ lo hi, base ≤ lo ∧ hi ≤ w.heap.size ∧ PTAt w lo hi qs[i].val ts[i] ∧ ∀ b, v.ownBlock = some b → ¬ (lo ≤ b ∧ b < hi)

theorem PsAt.nil (w : World) (base : Nat) : PsAt w base (.slice none 0 0) [] [] := ⟨World.ownsRow_nil _ _ _ _, rfl, by simp, fun i h => by simp at h⟩

theorem ownsRow_block {w : World} {base e size n : Nat} {v : Value} {xs : List Value} (h : w.ownsRow base e size v n xs) {b : Nat} (hb : v.ownBlock = some b) : base ≤ b ∧ b < w.heap.size := by
  rcases h.2 with ⟨rfl, _⟩ | ⟨g, cap, cur, rfl, h1, h2, _⟩
  · simp [Value.ownBlock] at hb
  · simp [Value.ownBlock] at hb
    subst hb
    exact ⟨h1, (Array.getElem?_eq_some_iff.1 h2).1⟩

theorem ownsRow_kept {w w' : World} {base e size n : Nat} {v : Value} {xs : List Value} {S : Nat → Prop} (h : w.ownsRow base e size v n xs) (k : Kept S w w') (hs : ∀ b, v.ownBlock = some b → ¬ S b) : w'.ownsRow base e size v n xs := by
  obtain ⟨h1, h2⟩ := h
  refine ⟨h1, ?_⟩
  rcases h2 with h2 | ⟨g, cap, cur, rfl, a1, a2, r⟩
  · exact Or.inl h2
  · exact Or.inr ⟨g, cap, cur, rfl, a1, (k.block g (Array.getElem?_eq_some_iff.1 a2).1 (hs g rfl)).trans a2, r⟩

/-- what is the call's own stays so while nothing from base on is turned -/
theorem PsAt.kept {w w' : World} {base : Nat} {v : Value} {qs : List Quad} {ts : List PT} {S : Nat → Prop} (h : PsAt w base v qs ts) (k : Kept S w w') (hs : ∀ i, S i → i < base) : PsAt w' base v qs ts where
  own := ownsRow_kept h.own k (fun b hb hx => by have := ownsRow_block h.own hb; have := hs b hx; omega)
  len := h.len
  few := h.few
  kid i hi hi' := by
    obtain ⟨lo, hi2, h1, h2, h3, h4⟩ := h.kid i hi hi'
    exact ⟨lo, hi2, h1, Nat.le_trans h2 k.size, h3.kept k (fun j hj _ hx => by have := hs j hx; omega) h2, h4⟩

/-- one more piece -/
theorem PsAt.snoc {w w1 w' : World} {base : Nat} {v v' : Value} {qs : List Quad} {ts : List PT} {q : Quad} {T : PT} {lo hi : Nat} (h : PsAt w base v qs ts)
    (hq : PTAt w lo hi q.val T) (hlo : base ≤ lo) (hvl : ∀ b, v.ownBlock = some b → b < lo) (hhi : hi ≤ w.heap.size)
    (k1 : Kept Nil w w1) (hown : w'.ownsRow base 53 4 v' (ts.length + 1) (flat qs ++ flat [q])) (hg : w1.grownBy w' v.ownBlock) (hloc : v'.ownBlock = v.ownBlock ∨ v'.ownBlock = some w1.heap.size) (hfew : ts.length + 1 ≤ 400) : PsAt w' base v' (qs ++ [q]) (ts ++ [T]) := by
  have kk : Kept (fun i => v.ownBlock = some i) w w' := (k1.mono (fun _ hx => hx.elim)).grown hg (fun j hj => Or.inl hj)
  have hsz : w.heap.size ≤ w1.heap.size := k1.size
  refine ⟨by rw [flat_append]; simpa using hown, by simp [h.len], by simpa using hfew, fun i hi1 hi2 => ?_⟩
  by_cases hlt : i < ts.length
  · obtain ⟨lo2, hi3, a1, a2, a3, a4⟩ := h.kid i hlt (by rw [h.len]; exact hlt)
    refine ⟨lo2, hi3, a1, Nat.le_trans a2 kk.size, ?_, fun b hb => ?_⟩
    · have e1 : (qs ++ [q])[i] = qs[i]'(by rw [h.len]; exact hlt) := List.getElem_append_left _
      have e2 : (ts ++ [T])[i] = ts[i] := List.getElem_append_left _
      rw [e1, e2]
      exact a3.kept kk (fun j hj1 hj2 hx => a4 j hx ⟨hj1, hj2⟩) a2
    · rcases hloc with hl | hl
      · exact a4 b (hl ▸ hb)
      · rw [hl] at hb; cases hb; omega
  · have hi' : i = ts.length := by simp at hi1; omega
    subst hi'
    refine ⟨lo, hi, hlo, Nat.le_trans hhi kk.size, ?_, fun b hb => ?_⟩
    · have e1 : (qs ++ [q])[ts.length] = q := by simp [← h.len]
      have e2 : (ts ++ [T])[ts.length] = T := by simp
      rw [e1, e2]
      exact hq.kept kk (fun j hj1 _ hx => by have := hvl j hx; omega) hhi
    · rcases hloc with hl | hl
      · have := hvl b (hl ▸ hb); omega
      · rw [hl] at hb; cases hb; omega

/-- a node over a list of pieces -/
theorem PsAt.node {w : World} {base : Nat} {v : Value} {qs : List Quad} {ts : List PT} (h : PsAt w base v qs ts) (k l hh : Int) (hk : k = 0 ∨ k = 1 ∨ k = 2 ∨ (k = 3 ∧ ts ≠ []) ∨ k = 4) (hl : -1 ≤ l ∧ l ≤ 99) (hh' : -1 ≤ hh ∧ hh ≤ 99) :
    PTAt w base w.heap.size (.agg #[.int .i64 k, v, .int .i64 l, .int .i64 hh]) (.node k ts l hh) := by
  have kids : ∀ i, (h' : i < ts.length) → PTAt w base w.heap.size ((qs.getD i (undef, undef, undef, undef)).val) ts[i] := by
    intro i hi
    have hi2 : i < qs.length := by rw [h.len]; exact hi
    obtain ⟨lo, hi3, a1, a2, a3, _⟩ := h.kid i hi hi2
    have e : qs.getD i (undef, undef, undef, undef) = qs[i] := by simp [List.getD, List.getElem?_eq_getElem hi2]
    rw [e]
    exact a3.widen a1 a2
  rcases h.own.2 with ⟨rfl, hn⟩ | ⟨g, cap, cur, rfl, a1, a2, a3, a4, a5, a6⟩
  · have e : ts = [] := List.length_eq_zero_iff.1 hn
    subst e
    exact PTAt.mk k l hh none 0 0 [] (fun _ => (undef, undef, undef, undef)) (fun h => absurd rfl h) (fun i h => by simp at h) (fun i h => by simp at h) ⟨hl, hh', by simp, hk⟩
  · refine PTAt.mk k l hh _ cap g ts (fun i => qs.getD i (undef, undef, undef, undef)) (fun _ => ⟨rfl, a1, (Array.getElem?_eq_some_iff.1 a2).1⟩) (fun i hi => ?_) kids ⟨hl, hh', h.few, hk⟩
    have hi2 : i < qs.length := by rw [h.len]; exact hi
    have e : qs.getD i (undef, undef, undef, undef) = qs[i] := by simp [List.getD, List.getElem?_eq_getElem hi2]
    have hf := flat_get qs i hi2
    have hcell : ∀ j x, j < ts.length * 4 → (flat qs)[j]? = some x → w.cell? ⟨g, j, none⟩ = some x := by
      intro j x hj hx
      rw [← a6, List.getElem?_take_of_lt hj] at hx
      simp only [World.cell?, a2]
      simpa using hx
    rw [e]
    exact ⟨hcell _ _ (by omega) hf.1, hcell _ _ (by omega) hf.2.1, hcell _ _ (by omega) hf.2.2.1, hcell _ _ (by omega) hf.2.2.2⟩
end Go.Proofs.Ytlimhofdonkljaa
