/- The reference: Form: the place of what can't stand. -/
import Derived.Test.YtagehbmipookbaaGreatDoorSc4
import Derived.Test.YtagehbmipookbaaGreatDoorRn
namespace Go.Proofs.YtagehbmipookbaaGreatDoor
open Go.RowKit
set_option linter.unusedVariables false
set_option maxRecDepth 100000

theorem inv_of {c' : Sc} {m : M} {o n : Int} {z : Bool} {i : Int} (h : some (⟨m, o, n, z⟩ : Sc) = some c') (h1 : 0 ≤ o ∧ o ≤ i + 1) (h2 : 0 ≤ n ∧ n ≤ 8) (h3 : (m = .low ∨ m = .high) → n ≤ 2) : c'.inv (i + 1) := by
  cases h; exact ⟨h1.1, h1.2, h2.1, h2.2, h3⟩
theorem scAtom_inv {c c' : Sc} {r i : Int} (h : scAtom c r = some c') (h1 : 0 ≤ c.o ∧ c.o ≤ i) (h2 : 0 ≤ c.n ∧ c.n ≤ 8) : c'.inv (i + 1) := by
  unfold scAtom at h
  split at h
  · exact inv_of h (by omega) h2 (by simp)
  split at h
  · exact inv_of h (by omega) h2 (by simp)
  split at h
  · split at h
    · exact inv_of h (by omega) h2 (by simp)
    · cases h
  split at h
  · exact inv_of h (by omega) h2 (by simp)
  split at h
  · exact inv_of h (by omega) h2 (by simp)
  split at h
  · exact inv_of h (by omega) h2 (by simp)
  split at h
  · exact inv_of h (by omega) h2 (by simp)
  split at h
  · exact inv_of h (by omega) h2 (by simp)
  split at h
  · cases h
  · exact inv_of h (by omega) h2 (by simp)
theorem scItem_inv {c c' : Sc} {r i : Int} (h : scItem c r = some c') (h1 : 0 ≤ c.o ∧ c.o ≤ i) (h2 : 0 ≤ c.n ∧ c.n ≤ 8) : c'.inv (i + 1) := by
  unfold scItem at h
  split at h
  · exact inv_of h (by omega) h2 (by simp)
  split at h
  · cases h
  · exact inv_of h (by omega) h2 (by simp)
theorem scStep_inv {c c' : Sc} {r i : Int} (h : scStep c r = some c') (hc : c.inv i) : c'.inv (i + 1) := by
  obtain ⟨m, o, n, z⟩ := c
  obtain ⟨h1, h2, h3, h4, h5⟩ := hc
  simp only at h1 h2 h3 h4 h5
  have a1 : 0 ≤ o ∧ o ≤ i := ⟨h1, h2⟩
  have a2 : 0 ≤ n ∧ n ≤ 8 := ⟨h3, h4⟩
  cases m
  case begin => exact scAtom_inv h a1 a2
  case more => exact scAtom_inv h a1 a2
  case open_ =>
    simp only [scStep] at h
    split at h
    · exact inv_of h (by omega) a2 (by simp)
    · exact scAtom_inv h a1 a2
  case query =>
    simp only [scStep, scBracket] at h
    split at h
    · exact inv_of h (by omega) a2 (by simp)
    split at h
    · exact inv_of h (by omega) a2 (by simp)
    split at h
    · exact inv_of h (by omega) (by omega) (by simp)
    · cases h
  case colon =>
    simp only [scStep, scBracket] at h
    split at h
    · exact inv_of h (by omega) a2 (by simp)
    · cases h
  case name =>
    simp only [scStep, scBracket] at h
    split at h
    · rename_i hx
      simp only [Bool.and_eq_true, decide_eq_true_eq] at hx
      exact inv_of h (by omega) (by omega) (by simp)
    split at h
    · exact inv_of h (by omega) a2 (by simp)
    · cases h
  case escape =>
    simp only [scStep] at h
    split at h
    · exact inv_of h (by omega) a2 (by simp)
    · cases h
  case low =>
    have h6 := h5 (by simp)
    simp only [scStep, scCounts] at h
    split at h
    · split at h
      · cases h
      · rename_i hx
        simp only [Bool.or_eq_true, beq_iff_eq, Bool.and_eq_true, not_or] at hx
        exact inv_of h (by omega) (by omega) (by omega)
    split at h
    · exact inv_of h (by omega) (by omega) (by simp)
    split at h
    · exact inv_of h (by omega) a2 (by simp)
    · cases h
  case high =>
    have h6 := h5 (by simp)
    simp only [scStep, scCounts] at h
    split at h
    · split at h
      · cases h
      · rename_i hx
        simp only [Bool.or_eq_true, beq_iff_eq, Bool.and_eq_true, not_or] at hx
        exact inv_of h (by omega) (by omega) (by omega)
    split at h
    · exact inv_of h (by omega) (by omega) (by simp)
    split at h
    · exact inv_of h (by omega) a2 (by simp)
    · cases h
  case times =>
    simp only [scStep] at h
    split at h
    · exact inv_of h (by omega) a2 (by simp)
    split at h
    · exact inv_of h (by omega) a2 (by simp)
    split at h
    · exact inv_of h (by omega) a2 (by simp)
    split at h
    · exact inv_of h (by omega) (by omega) (by simp)
    · exact scAtom_inv h a1 a2
  case lazy =>
    simp only [scStep] at h
    split at h
    · exact inv_of h (by omega) a2 (by simp)
    · exact scAtom_inv h a1 a2
  case class_ =>
    simp only [scStep, scClass] at h
    split at h
    · exact inv_of h (by omega) a2 (by simp)
    split at h
    · cases h
    · exact scItem_inv h a1 a2
  case first =>
    simp only [scStep, scClass] at h
    split at h
    · cases h
    · exact scItem_inv h a1 a2
  case items =>
    simp only [scStep, scClass] at h
    split at h
    · exact inv_of h (by omega) a2 (by simp)
    · exact scItem_inv h a1 a2
  case one =>
    simp only [scStep, scClass] at h
    split at h
    · exact inv_of h (by omega) a2 (by simp)
    split at h
    · exact inv_of h (by omega) a2 (by simp)
    · exact scItem_inv h a1 a2
  case upto =>
    simp only [scStep, scClass] at h
    split at h
    · exact inv_of h (by omega) a2 (by simp)
    split at h
    · cases h
    · exact inv_of h (by omega) a2 (by simp)
  case upescape =>
    simp only [scStep, scClass] at h
    split at h
    · exact inv_of h (by omega) a2 (by simp)
    · cases h
  case escape1 =>
    simp only [scStep, scClass] at h
    split at h
    · exact inv_of h (by omega) a2 (by simp)
    split at h
    · exact inv_of h (by omega) a2 (by simp)
    · cases h

def isDone : M → Bool
  | .begin | .more | .times | .lazy => true
  | _ => false
def sc0 : Sc := ⟨.begin, 0, 0, false⟩
def formOf (n : Int) : Sc → List (Nat × Int) → Int
  | c, [] => if isDone c.m && c.o == 0 then -1 else n
  | c, p :: l => match scStep c p.2 with
    | some c' => formOf n c' l
    | none => p.1
theorem formOf_some {n : Int} {c c' : Sc} {p : Nat × Int} {l : List (Nat × Int)} (h : scStep c p.2 = some c') : formOf n c (p :: l) = formOf n c' l := by
  rw [show formOf n c (p :: l) = match scStep c p.2 with | some c' => formOf n c' l | none => (p.1 : Int) from rfl, h]
theorem formOf_none {n : Int} {c : Sc} {p : Nat × Int} {l : List (Nat × Int)} (h : scStep c p.2 = none) : formOf n c (p :: l) = p.1 := by
  rw [show formOf n c (p :: l) = match scStep c p.2 with | some c' => formOf n c' l | none => (p.1 : Int) from rfl, h]

/-- a slice of runes and their places -/
structure GlAt (w : World) (lo b : Nat) (ao : Option Addr) (l : List (Nat × Int)) : Prop where
  isSome : l ≠ [] → ao = some ⟨b, 0, none⟩ ∧ lo ≤ b ∧ b < w.heap.size
  cells : ∀ i, (h : i < l.length) → w.cell? ⟨b, i * 3, none⟩ = some (.int .i64 l[i].2) ∧ w.cell? ⟨b, i * 3 + 1, none⟩ = some (.int .i64 l[i].1)

theorem GlAt.kept {w w' : World} {lo b : Nat} {ao : Option Addr} {l : List (Nat × Int)} {S : Nat → Prop} (h : GlAt w lo b ao l) (k : Kept S w w') (hs : l ≠ [] → ¬ S b) : GlAt w' lo b ao l := by
  by_cases hl : l = []
  · subst hl; exact ⟨fun h => absurd rfl h, fun i h => by simp at h⟩
  · obtain ⟨h1, h2, h3⟩ := h.isSome hl
    have hns := hs hl
    exact ⟨fun _ => ⟨h1, h2, Nat.lt_of_lt_of_le h3 k.size⟩, fun i hi => ⟨(k.cell (p := ⟨b, i * 3, none⟩) h3 hns).trans (h.cells i hi).1, (k.cell (p := ⟨b, i * 3 + 1, none⟩) h3 hns).trans (h.cells i hi).2⟩⟩

theorem GlAt.of {w : World} {lo : Nat} {v : Value} {s : ByteArray} {l : List (Nat × Int)} (h : w.ownsRow lo 66 3 v l.length (flat3 (l.map (tri s)))) : ∃ b ao cap, v = .slice ao l.length cap ∧ GlAt w lo b ao l := by
  rcases h.2 with ⟨rfl, h0⟩ | ⟨g, cap, cur, rfl, a1, a2, a3, a4, a5, a6⟩
  · have e : l = [] := List.length_eq_zero_iff.1 h0
    subst e
    exact ⟨0, none, 0, rfl, fun h => absurd rfl h, fun i h => by simp at h⟩
  · refine ⟨g, _, cap, rfl, fun _ => ⟨rfl, a1, (Array.getElem?_eq_some_iff.1 a2).1⟩, fun i hi => ?_⟩
    have hf := flat3_get (l.map (tri s)) i (by simpa using hi)
    have hcell : ∀ j x, j < l.length * 3 → (flat3 (l.map (tri s)))[j]? = some x → w.cell? ⟨g, j, none⟩ = some x := by
      intro j x hj hx
      rw [← a6, List.getElem?_take_of_lt hj] at hx
      simp only [World.cell?, a2]
      simpa using hx
    have e : (l.map (tri s))[i]'(by simpa using hi) = tri s l[i] := by simp
    rw [e] at hf
    exact ⟨hcell _ _ (by omega) hf.1, hcell _ _ (by omega) hf.2.1⟩

set_option maxHeartbeats 4000000 in
theorem form_any (s : ByteArray) (w : World) (hs : s.size ≤ 300) (hlen : (scan s).length ≤ s.size) :
    Calls Tryz.prog 11 #[.string s] w fun e w' => e = .returned (.int .i64 (formOf s.size sc0 (scan s))) ∧ Kept Nil w w' := by
  go_enter Tryz.func11, Tryz.ntmps11
  go_wp2_with fail
  refine (runes_any s w (by omega)).mono ?_
  rintro e w1 ⟨v, rfl, hown, hk1⟩
  obtain ⟨b, ao, cap, hv, hG⟩ := GlAt.of hown
  rw [hv]
  clear hown hv
  generalize hsc : scan s = l at *
  have HSC : Hid (scan s = l) := hsc
  clear hsc
  go_wp2_with fail
  have hG1 := hG.kept ((Kept.refl Nil w1).alloc (.cells #[.string ⟨#[98, 101, 103, 105, 110]⟩, .int .i64 0, .int .i64 0, .bool false] 71)) (fun _ hi => hi.elim)
  have hS0 : ScAt (w1.alloc (.cells #[.string ⟨#[98, 101, 103, 105, 110]⟩, .int .i64 0, .int .i64 0, .bool false] 71)) w1.heap.size sc0 := Blk.new _ _ _
  have hk2 : Kept Nil w (w1.alloc (.cells #[.string ⟨#[98, 101, 103, 105, 110]⟩, .int .i64 0, .int .i64 0, .bool false] 71)) := hk1.alloc _
  have hbs : w.heap.size ≤ w1.heap.size := hk1.size
  have hbl : l ≠ [] → b < w1.heap.size := fun h => (hG.isSome h).2.2
  go_loopg [5] l.length (fun kk i wr => ∃ (j : Nat) (c : Sc), i = .int .i64 j ∧ j ≤ l.length ∧ kk = l.length - j ∧ ScAt wr w1.heap.size c ∧ Hid (c.inv j) ∧ Hid (formOf s.size c (l.drop j) = formOf s.size sc0 l) ∧ GlAt wr w.heap.size b ao l ∧ Kept Nil w wr)
  case atStart => exact ⟨0, sc0, rfl, Nat.zero_le _, rfl, hS0, by refine ⟨?_, ?_, ?_, ?_, ?_⟩ <;> simp [sc0], rfl, hG1, hk2⟩
  case round =>
    obtain ⟨j, c, rfl, hj, rfl, hS, HI, HF, hGr, hk⟩ := hrel
    clear hG hG1 hS0 hk2 hk1
    by_cases hlt : j < l.length
    · have hltI : (j : Int) < (l.length : Int) := by omega
      obtain ⟨rfl, b1, b2⟩ := hGr.isSome (by intro e; subst e; simp at hlt)
      have hbl' := hbl (by intro e; subst e; simp at hlt)
      have q0 := (hGr.cells j hlt).1
      have HD : Hid (l.drop j = l[j] :: l.drop (j + 1)) := List.drop_eq_getElem_cons hlt
      go_wp2_with fail
      refine (takes_any hS _ j (by omega) HI.out).mono ?_
      rintro e w2 ⟨he, hk2, hs2⟩
      rw [he]
      clear he
      have hG2 := hGr.kept hk2 (fun _ hi => by omega)
      have kw2 : Kept Nil w w2 := hk.trans' hk2 (fun i hi he => by omega)
      cases hst : scStep c l[j].2 with
      | none =>
        have q1 := (hG2.cells j hlt).2
        go_wp2_with fail
        go_ret
        refine ⟨?_, kw2⟩
        rw [HSC.out, ← HF.out, HD.out, formOf_none hst]; rfl
      | some c' =>
        have hS2 := hs2 c' hst
        go_wp2_with fail
        go_roundg (l.length - (j + 1))
        case measure => omega
        case rel =>
          refine ⟨j + 1, c', by go_num, by omega, rfl, hS2, ?_, ?_, hG2, kw2⟩
          · have := scStep_inv hst HI.out
            show c'.inv _
            simpa using this
          · show _ = _
            rw [← HF.out, HD.out, formOf_some hst]
    · have ej : j = l.length := by omega
      subst ej
      have c0 : wr.cell? ⟨w1.heap.size, 0, none⟩ = some (.string c.m.str) := hS.cell 0
      have c1 : wr.cell? ⟨w1.heap.size, 1, none⟩ = some (.int .i64 c.o) := hS.cell 1
      have HV : Hid (formOf s.size sc0 l = if isDone c.m && c.o == 0 then -1 else (s.size : Int)) := by
        show _ = _
        rw [← HF.out, List.drop_length]; rfl
      cases hd : isDone c.m
      · have HV2 : Hid (formOf s.size sc0 l = (s.size : Int)) := by show _ = _; rw [HV.out, hd]; rfl
        obtain ⟨m, o, n, z⟩ := c
        cases m <;> simp only [isDone] at hd <;> first | (cases hd; done) | skip
        all_goals
          simp only [M.str] at c0
          go_wp2_with fail
          go_ret
          exact ⟨by rw [HSC.out, HV2.out]; rfl, hk⟩
      · obtain ⟨m, o, n, z⟩ := c
        cases ho : (o == 0)
        · have ho' : (o != 0) = true := by simp at ho; simp [ho]
          have HV2 : Hid (formOf s.size sc0 l = (s.size : Int)) := by show _ = _; rw [HV.out, hd, ho]; rfl
          cases m <;> simp only [isDone] at hd <;> first | (cases hd; done) | skip
          all_goals
            simp only [M.str] at c0
            go_wp2_with fail
            go_ret
            exact ⟨by rw [HSC.out, HV2.out]; rfl, hk⟩
        · have ho' : (o != 0) = false := by simp at ho; simp [ho]
          have HV2 : Hid (formOf s.size sc0 l = -1) := by show _ = _; rw [HV.out, hd, ho]; rfl
          cases m <;> simp only [isDone] at hd <;> first | (cases hd; done) | skip
          all_goals
            simp only [M.str] at c0
            go_wp2_with fail
            go_ret
            exact ⟨by rw [HSC.out, HV2.out]; rfl, hk⟩
end Go.Proofs.YtagehbmipookbaaGreatDoor
