/- The program: the size of a piece: node.copies, node.size. -/
import Derived.Test.YtlimhofdonkljaaRd10
namespace Go.Proofs.Ytlimhofdonkljaa
open Go.RowKit Go.Maps
set_option linter.unusedVariables false

theorem sizes_take (ts : List PT) (i : Nat) (h : i < ts.length) : PT.sizes (ts.take (i + 1)) = PT.sizes (ts.take i) + (ts[i]).size := by
  induction ts generalizing i with
  | nil => simp at h
  | cons t ts ih =>
    cases i with
    | zero => simp [PT.sizes]
    | succ i =>
      have := ih i (by simpa using h)
      simp only [List.take_succ_cons, PT.sizes, List.getElem_cons_succ]
      omega
theorem sizes_range (ts : List PT) (h : ∀ i, (h : i < ts.length) → 0 ≤ (ts[i]).size ∧ (ts[i]).size ≤ 1001) : 0 ≤ PT.sizes ts ∧ PT.sizes ts ≤ 1001 * ts.length := by
  induction ts with
  | nil => simp [PT.sizes]
  | cons t ts ih =>
    have h0 := h 0 (by simp)
    have h1 := ih (fun i hi => by have := h (i + 1) (by simp; omega); simpa using this)
    simp only [PT.sizes, List.getElem_cons_zero, List.length_cons] at *
    omega
theorem mul_range {c s : Int} (hc : 0 ≤ c ∧ c ≤ 100) (hs : 0 ≤ s ∧ s ≤ 1000000) : 0 ≤ c * s ∧ c * s ≤ 100000000 := by
  refine ⟨Int.mul_nonneg hc.1 hs.1, ?_⟩
  calc c * s ≤ 100 * s := Int.mul_le_mul_of_nonneg_right hc.2 hs.1
    _ ≤ 100000000 := by omega

theorem copies_range {lo hi : Int} (h1 : -1 ≤ lo ∧ lo ≤ 99) (h2 : -1 ≤ hi ∧ hi ≤ 99) : 0 ≤ (if hi = -1 then lo + 1 else hi) ∧ (if hi = -1 then lo + 1 else hi) ≤ 100 := by split <;> omega

theorem PTAt.size_range {w : World} {lo hi : Nat} {v : Value} {T : PT} (h : PTAt w lo hi v T) : 0 ≤ T.size ∧ T.size ≤ 1001 := by
  induction h with
  | mk k l hh ao cap b ts V hb hc hk hr ih =>
    have hs := sizes_range ts ih
    obtain ⟨r1, r2, r3, r4⟩ := hr
    have hc := copies_range r1 r2
    have hm := mul_range hc (s := PT.sizes ts + 1) (by omega)
    unfold PT.size
    simp only
    have hne : k = 3 → 0 < ts.length := by
      intro e
      rcases r4 with h | h | h | h | h
      · omega
      · omega
      · omega
      · exact List.length_pos_iff.2 h.2
      · omega
    refine ⟨?_, by omega⟩
    have : 0 ≤ (if k = 0 ∨ k = 1 then PT.sizes ts + 1 else if k = 3 then PT.sizes ts + ((ts.length : Int) - 1) else if k = 4 then (if hh = -1 then l + 1 else hh) * (PT.sizes ts + 1) else PT.sizes ts) := by
      split
      · omega
      · split
        · rename_i e; have := hne e; omega
        · split
          · exact hm.1
          · exact hs.1
    omega

theorem ret_int {k : IntKind} {a b : Int} (h : a = b) : Ending.returned (.int k a) = .returned (.int k b) := by rw [h]

theorem copies_rd (k l h : Int) (ao : Option Addr) (n cap : Nat) (w : World) (hl : -1 ≤ l ∧ l ≤ 99) :
    Calls Try.prog 30 #[.agg #[.int .i64 k, .slice ao n cap, .int .i64 l, .int .i64 h]] w fun e w' => e = .returned (.int .i64 (if h = -1 then l + 1 else h)) ∧ Kept Nil w w' := by
  by_cases hh : h = -1
  · have hb : (h == -1) = true := by simp [hh]
    rw [if_pos hh]
    clear hh
    go_enter Try.func30, Try.ntmps30
    go_wp2_with fail
    go_ret
    exact ⟨rfl, (Kept.refl _ _).alloc _⟩
  · have hb : (h == -1) = false := by simp [hh]
    rw [if_neg hh]
    go_enter Try.func30, Try.ntmps30
    go_wp2_with fail
    go_ret
    exact ⟨rfl, (Kept.refl _ _).alloc _⟩

theorem size_rd {w : World} {lo hi : Nat} {v : Value} {T : PT} (h : PTAt w lo hi v T) (hle : hi ≤ w.heap.size) : ∀ w', Kept Nil w w' →
    Calls Try.prog 18 #[v] w' fun e w'' => e = .returned (.int .i64 T.size) ∧ Kept Nil w' w'' := by
  induction h with
  | mk k l hh ao cap b ts V hb hc hk hr ih =>
    intro w' hw
    have IH : Hid (∀ i (h : i < ts.length) (w' : World), Kept Nil w w' → Calls Try.prog 18 #[(V i).val] w' fun e w'' => e = .returned (.int .i64 (ts[i]).size) ∧ Kept Nil w' w'') := ih
    have hkr : ∀ i, (h : i < ts.length) → 0 ≤ (ts[i]).size ∧ (ts[i]).size ≤ 1001 := fun i h => (hk i h).size_range
    have HS := sizes_range ts hkr
    clear ih
    obtain ⟨r1, r2, r3, r4⟩ := hr
    have x0 := Blk.new w' #[.int .i64 k, .slice ao ts.length cap, .int .i64 l, .int .i64 hh] 53
    go_enter Try.func18, Try.ntmps18
    go_wp2_with fail
    go_loopg [3, 9] ts.length (fun kk s i wr => ∃ j : Nat, j ≤ ts.length ∧ i = .int .i64 j ∧ s = .int .i64 (PT.sizes (ts.take j)) ∧ kk = ts.length - j ∧ Kept Nil w' wr ∧ Blk wr w'.heap.size #[.int .i64 k, .slice ao ts.length cap, .int .i64 l, .int .i64 hh] 53)
    case atStart => exact ⟨0, Nat.zero_le _, rfl, by simp [PT.sizes], rfl, (Kept.refl _ _).alloc _, x0⟩
    case round =>
      obtain ⟨j, hj, rfl, rfl, rfl, hkw, hbw⟩ := hrel
      have hsj := sizes_range (ts.take j) (fun i hi => by have := hkr i (by simp at hi; omega); simpa using this)
      have hlj : (ts.take j).length ≤ 400 := by simp; omega
      by_cases hlt : j < ts.length
      · obtain ⟨rfl, b1, b2⟩ := hb (by intro e; subst e; simp at hlt)
        have hcj := hc j hlt
        have kk := hw.trans hkw
        have q0 : wr.cell? ⟨b, 4 * j, none⟩ = some (V j).1 := (kk.cell (p := ⟨b, 4 * j, none⟩) (by show b < _; omega) (fun hx => hx)).trans hcj.1
        have q1 : wr.cell? ⟨b, 4 * j + 1, none⟩ = some (V j).2.1 := (kk.cell (p := ⟨b, 4 * j + 1, none⟩) (by show b < _; omega) (fun hx => hx)).trans hcj.2.1
        have q2 : wr.cell? ⟨b, 4 * j + 2, none⟩ = some (V j).2.2.1 := (kk.cell (p := ⟨b, 4 * j + 2, none⟩) (by show b < _; omega) (fun hx => hx)).trans hcj.2.2.1
        have q3 : wr.cell? ⟨b, 4 * j + 3, none⟩ = some (V j).2.2.2 := (kk.cell (p := ⟨b, 4 * j + 3, none⟩) (by show b < _; omega) (fun hx => hx)).trans hcj.2.2.2
        have hq := (hk j hlt).quad
        have hkj := hkr j hlt
        have STK : Hid (PT.sizes (ts.take (j + 1)) = PT.sizes (ts.take j) + (ts[j]).size) := sizes_take ts j hlt
        clear hb hc hk hcj hkr
        obtain ⟨k1, ao1, n1, cap1, l1, h1, hv⟩ := hq
        have IHj := IH.out j hlt
        rw [hv] at IHj
        have IHJ : Hid (∀ (w' : World), Kept Nil w w' → Calls Try.prog 18 #[.agg #[.int .i64 k1, .slice ao1 n1 cap1, .int .i64 l1, .int .i64 h1]] w' fun e w'' => e = .returned (.int .i64 (ts[j]).size) ∧ Kept Nil w' w'') := IHj
        clear IHj IH
        simp only [Quad.val, Value.agg.injEq] at hv
        have hv' := congrArg Array.toList hv
        simp only [List.cons.injEq, and_true] at hv'
        obtain ⟨v0, v1, v2, v3⟩ := hv'
        rw [v0] at q0
        rw [v1] at q1
        rw [v2] at q2
        rw [v3] at q3
        clear hv v0 v1 v2 v3
        rw [Nat.mul_comm 4 j] at q0 q1 q2 q3
        go_wp2_with fail
        refine (IHJ.out _ (kk.alloc _)).mono ?_
        rintro e w2 ⟨rfl, hk2⟩
        have hb2 := (hbw.alloc (.cells #[.int .i64 k1, .slice ao1 n1 cap1, .int .i64 l1, .int .i64 h1] 53)).kept hk2 (fun hx => hx)
        have kw2 := (hkw.alloc (.cells #[.int .i64 k1, .slice ao1 n1 cap1, .int .i64 l1, .int .i64 h1] 53)).trans hk2
        clear q0 q1 q2 q3 hk2 hbw hkw
        go_wp2_with fail
        go_roundg (ts.length - (j + 1))
        case measure => omega
        case rel => exact ⟨j + 1, by omega, by go_num, by rw [STK.out], rfl, kw2, hb2⟩
      · have ej : j = ts.length := by omega
        subst ej
        rw [List.take_length] at hsj hlj ⊢
        have hcr := copies_range r1 r2
        have hm := mul_range hcr (s := PT.sizes ts + 1) (by omega)
        have d0 : wr.cell? ⟨w'.heap.size, 0, none⟩ = some (.int .i64 k) := hbw.cell 0
        have d1 : wr.cell? ⟨w'.heap.size, 1, none⟩ = some (.slice ao ts.length cap) := hbw.cell 1
        have d2 : wr.cell? ⟨w'.heap.size, 2, none⟩ = some (.int .i64 l) := hbw.cell 2
        have d3 : wr.cell? ⟨w'.heap.size, 3, none⟩ = some (.int .i64 hh) := hbw.cell 3
        clear IH hb hc hk hkr
        rcases r4 with rfl | rfl | rfl | ⟨rfl, hne⟩ | rfl
        · go_wp2_with fail
          all_goals go_ret
          all_goals exact ⟨ret_int (by unfold PT.size; simp; omega), hkw⟩
        · go_wp2_with fail
          all_goals go_ret
          all_goals exact ⟨ret_int (by unfold PT.size; simp; omega), hkw⟩
        · go_wp2_with fail
          all_goals go_ret
          all_goals exact ⟨ret_int (by unfold PT.size; simp; omega), hkw⟩
        · have hpos : 0 < ts.length := List.length_pos_iff.2 hne
          clear hne
          go_wp2_with fail
          all_goals go_ret
          all_goals exact ⟨ret_int (by unfold PT.size; simp; omega), hkw⟩
        · generalize hcc : (if hh = -1 then l + 1 else hh) = cc at hcr hm
          have HCC : Hid ((if hh = -1 then l + 1 else hh) = cc) := hcc
          go_wp2_with fail
          refine (copies_rd 4 l hh ao ts.length cap wr r1).mono ?_
          rintro e w2 ⟨rfl, hk2⟩
          rw [hcc]
          clear hcc
          go_wp2_with fail
          all_goals go_ret
          all_goals exact ⟨ret_int (by unfold PT.size; simp only [HCC.out]; simp; omega), hkw.trans hk2⟩
end Go.Proofs.Ytlimhofdonkljaa
