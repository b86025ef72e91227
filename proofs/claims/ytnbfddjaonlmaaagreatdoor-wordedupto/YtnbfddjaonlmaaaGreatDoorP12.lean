/- The program: the size of a piece: node.copies, node.size. -/
import Derived.Test.YtnbfddjaonlmaaaGreatDoorP11
namespace Go.Proofs.YtnbfddjaonlmaaaGreatDoor
open Go.RowKit Go.Maps
set_option linter.unusedVariables false
set_option maxRecDepth 100000

theorem sizes_take (ts : List PT) (i : Nat) (h : i < ts.length) : PT.sizes (ts.take (i + 1)) = PT.sizes (ts.take i) + (ts[i]).size := by
  induction ts generalizing i with
  | nil => simp at h
  | cons t ts ih =>
    cases i with
    | zero => simp [PT.sizes]
    | succ i =>
      have := ih i (by simpa using h)
      simp only [List.take_succ_cons, PT.sizes, List.getElem_cons_succ]
      omega
theorem sizes_range (ts : List PT) (h : ∀ i, (h : i < ts.length) → 0 ≤ (ts[i]).size ∧ (ts[i]).size ≤ 1001) : 0 ≤ PT.sizes ts ∧ PT.sizes ts ≤ 1001 * ts.length := by
  induction ts with
  | nil => simp [PT.sizes]
  | cons t ts ih =>
    have h0 := h 0 (by simp)
    have h1 := ih (fun i hi => by have := h (i + 1) (by simp; omega); simpa using this)
    simp only [PT.sizes, List.getElem_cons_zero, List.length_cons] at *
    omega
theorem mul_range {c s : Int} (hc : 0 ≤ c ∧ c ≤ 100) (hs : 0 ≤ s ∧ s ≤ 1000000) : 0 ≤ c * s ∧ c * s ≤ 100000000 := by
  refine ⟨Int.mul_nonneg hc.1 hs.1, ?_⟩
  calc c * s ≤ 100 * s := Int.mul_le_mul_of_nonneg_right hc.2 hs.1
    _ ≤ 100000000 := by omega

theorem copies_range {lo hi : Int} (h1 : -1 ≤ lo ∧ lo ≤ 99) (h2 : -1 ≤ hi ∧ hi ≤ 99) : 0 ≤ (if hi = -1 then lo + 1 else hi) ∧ (if hi = -1 then lo + 1 else hi) ≤ 100 := by split <;> omega

theorem PTAt.size_range {w : World} {lo hi : Nat} {q : Nv} {T : PT} {C : CT} (h : PTAt w lo hi q T C) : 0 ≤ T.size ∧ T.size ≤ 1001 := by
  induction h with
  | mk q tk b bs ts cs V Sp sp fo nt hn hb hc hk hs1 hsc hr hkind ih =>
    have hs := sizes_range ts (fun i h => ih i h (by omega))
    obtain ⟨r1, r2, r3, r4⟩ := hr
    have hc := copies_range r1 r2
    have hm := mul_range hc (s := PT.sizes ts + 1) (by omega)
    unfold PT.size
    simp only
    have hne : tk = 3 → 0 < ts.length := by
      intro e
      rcases hkind with h | h | h | h | h | h
      · omega
      · omega
      · omega
      · omega
      · exact List.length_pos_iff.2 h.2.2
      · omega
    refine ⟨?_, by omega⟩
    have : 0 ≤ (if tk = 0 ∨ tk = 1 then PT.sizes ts + 1 else if tk = 3 then PT.sizes ts + ((ts.length : Int) - 1) else if tk = 4 then (if q.hi = -1 then q.lo + 1 else q.hi) * (PT.sizes ts + 1) else PT.sizes ts) := by
      split
      · omega
      · split
        · rename_i e; have := hne e; omega
        · split
          · exact hm.1
          · exact hs.1
    omega

theorem ret_int {k : IntKind} {a b : Int} (h : a = b) : Ending.returned (.int k a) = .returned (.int k b) := by rw [h]

theorem copies_rd (q : Nv) (w : World) (hl : -1 ≤ q.lo ∧ q.lo ≤ 99) :
    Calls Tryz.prog 40 #[Nv.val q] w fun e w' => e = .returned (.int .i64 (if q.hi = -1 then q.lo + 1 else q.hi)) ∧ Kept Nil w w' := by
  simp only [Nv.val, Nv.cells]
  by_cases hh : q.hi = -1
  · have hb : (q.hi == -1) = true := by simp [hh]
    rw [if_pos hh]
    clear hh
    go_enter Tryz.func40, Tryz.ntmps40
    go_wp2_with fail
    go_ret
    exact ⟨rfl, (Kept.refl _ _).alloc _⟩
  · have hb : (q.hi == -1) = false := by simp [hh]
    rw [if_neg hh]
    go_enter Tryz.func40, Tryz.ntmps40
    go_wp2_with fail
    go_ret
    exact ⟨rfl, (Kept.refl _ _).alloc _⟩

set_option maxHeartbeats 2000000 in
theorem size_rd {w : World} {lo hi : Nat} {q : Nv} {T : PT} {C : CT} (h : PTAt w lo hi q T C) (hle : hi ≤ w.heap.size) : ∀ w', Kept Nil w w' →
    Calls Tryz.prog 29 #[Nv.val q] w' fun e w'' => e = .returned (.int .i64 T.size) ∧ Kept Nil w' w'' := by
  induction h with
  | mk q tk b bs ts cs V Sp sp fo nt hn hb hc hk hs1 hsc hr hkind ih =>
    intro w' hw
    obtain ⟨k0, pa, pn, pc, sa, sn, sc, ed, gr, l0, h0, lz⟩ := q
    simp only [Nv.val, Nv.cells] at hn hb hr hkind ⊢
    obtain ⟨hn1, hn2, hn3⟩ := hn
    subst hn1
    have IH : Hid (∀ i (h : i < ts.length) (w' : World), Kept Nil w w' → Calls Tryz.prog 29 #[Nv.val (V i)] w' fun e w'' => e = .returned (.int .i64 (ts[i]).size) ∧ Kept Nil w' w'') := fun i h w' hw => ih i h (by omega) w' hw
    have hkr : ∀ i, (h : i < ts.length) → 0 ≤ (ts[i]).size ∧ (ts[i]).size ≤ 1001 := fun i h => (hk i h (by omega)).size_range
    have HS := sizes_range ts hkr
    clear ih
    obtain ⟨r1, r2, r3, r4⟩ := hr
    have x0 := Blk.new w' #[.int .i64 k0, .slice pa ts.length pc, .slice sa sn sc, .int .i64 ed, .int .i64 gr, .int .i64 l0, .int .i64 h0, .bool lz] 56
    clear hk hs1 hsc r4 hn2 hn3
    go_enter Tryz.func29, Tryz.ntmps29
    go_wp2_with fail
    go_loopg [3, 9] ts.length (fun kk s i wr => ∃ j : Nat, j ≤ ts.length ∧ i = .int .i64 j ∧ s = .int .i64 (PT.sizes (ts.take j)) ∧ kk = ts.length - j ∧ Kept Nil w' wr ∧ Blk wr w'.heap.size #[.int .i64 k0, .slice pa ts.length pc, .slice sa sn sc, .int .i64 ed, .int .i64 gr, .int .i64 l0, .int .i64 h0, .bool lz] 56)
    case atStart => exact ⟨0, Nat.zero_le _, rfl, by simp [PT.sizes], rfl, (Kept.refl _ _).alloc _, x0⟩
    case round =>
      obtain ⟨j, hj, rfl, rfl, rfl, hkw, hbw⟩ := hrel
      have hsj := sizes_range (ts.take j) (fun i hi => by have := hkr i (by simp at hi; omega); simpa using this)
      have hlj : (ts.take j).length ≤ 400 := by simp; omega
      by_cases hlt : j < ts.length
      · obtain ⟨rfl, b1, b2⟩ := hb (by intro e; subst e; simp at hlt)
        have hcj := hc j hlt
        have kk := hw.trans hkw
        have hcw : ∀ i, i < 8 → wr.cell? ⟨b, j * 8 + i, none⟩ = (V j).cells[i]? := fun i hi => (kk.cell (p := ⟨b, j * 8 + i, none⟩) (by show b < _; omega) (fun hx => hx)).trans (hcj i hi)
        have q0 : wr.cell? ⟨b, j * 8, none⟩ = some (.int .i64 (V j).k) := hcw 0 (by omega)
        have q1 : wr.cell? ⟨b, j * 8 + 1, none⟩ = some (.slice (V j).pa (V j).pn (V j).pc) := hcw 1 (by omega)
        have q2 : wr.cell? ⟨b, j * 8 + 2, none⟩ = some (.slice (V j).sa (V j).sn (V j).sc) := hcw 2 (by omega)
        have q3 : wr.cell? ⟨b, j * 8 + 3, none⟩ = some (.int .i64 (V j).ed) := hcw 3 (by omega)
        have q4 : wr.cell? ⟨b, j * 8 + 4, none⟩ = some (.int .i64 (V j).gr) := hcw 4 (by omega)
        have q5 : wr.cell? ⟨b, j * 8 + 5, none⟩ = some (.int .i64 (V j).lo) := hcw 5 (by omega)
        have q6 : wr.cell? ⟨b, j * 8 + 6, none⟩ = some (.int .i64 (V j).hi) := hcw 6 (by omega)
        have q7 : wr.cell? ⟨b, j * 8 + 7, none⟩ = some (.bool (V j).lz) := hcw 7 (by omega)
        have hkj := hkr j hlt
        have STK : Hid (PT.sizes (ts.take (j + 1)) = PT.sizes (ts.take j) + (ts[j]).size) := sizes_take ts j hlt
        have IHJ : Hid (∀ (w' : World), Kept Nil w w' → Calls Tryz.prog 29 #[.agg #[.int .i64 (V j).k, .slice (V j).pa (V j).pn (V j).pc, .slice (V j).sa (V j).sn (V j).sc, .int .i64 (V j).ed, .int .i64 (V j).gr, .int .i64 (V j).lo, .int .i64 (V j).hi, .bool (V j).lz]] w' fun e w'' => e = .returned (.int .i64 (ts[j]).size) ∧ Kept Nil w' w'') := IH.out j hlt
        clear hb hc hcj hkr hcw IH
        generalize V j = N at *
        go_wp2_with fail
        refine (IHJ.out _ (kk.alloc _)).mono ?_
        rintro e w2 ⟨rfl, hk2⟩
        have hb2 := (hbw.alloc (.cells N.cells 56)).kept hk2 (fun hx => hx)
        have kw2 := (hkw.alloc (.cells N.cells 56)).trans hk2
        clear q0 q1 q2 q3 q4 q5 q6 q7 hk2 hbw hkw
        go_wp2_with fail
        go_roundg (ts.length - (j + 1))
        case measure => omega
        case rel => exact ⟨j + 1, by omega, by go_num, by rw [STK.out], rfl, kw2, hb2⟩
      · have ej : j = ts.length := by omega
        subst ej
        rw [List.take_length] at hsj hlj ⊢
        have hcr := copies_range r1 r2
        have hm := mul_range hcr (s := PT.sizes ts + 1) (by omega)
        have d0 : wr.cell? ⟨w'.heap.size, 0, none⟩ = some (.int .i64 k0) := hbw.cell 0
        have d1 : wr.cell? ⟨w'.heap.size, 1, none⟩ = some (.slice pa ts.length pc) := hbw.cell 1
        have d2 : wr.cell? ⟨w'.heap.size, 2, none⟩ = some (.slice sa sn sc) := hbw.cell 2
        have d3 : wr.cell? ⟨w'.heap.size, 3, none⟩ = some (.int .i64 ed) := hbw.cell 3
        have d4 : wr.cell? ⟨w'.heap.size, 4, none⟩ = some (.int .i64 gr) := hbw.cell 4
        have d5 : wr.cell? ⟨w'.heap.size, 5, none⟩ = some (.int .i64 l0) := hbw.cell 5
        have d6 : wr.cell? ⟨w'.heap.size, 6, none⟩ = some (.int .i64 h0) := hbw.cell 6
        have d7 : wr.cell? ⟨w'.heap.size, 7, none⟩ = some (.bool lz) := hbw.cell 7
        clear IH hb hc hkr
        rcases hkind with ⟨rfl, rfl, _⟩ | ⟨rfl, rfl⟩ | ⟨rfl, rfl⟩ | ⟨rfl, rfl⟩ | ⟨rfl, rfl, hne⟩ | ⟨rfl, rfl⟩
        · go_wp2_with fail
          all_goals go_ret
          all_goals exact ⟨ret_int (by unfold PT.size; simp), hkw⟩
        · go_wp2_with fail
          all_goals go_ret
          all_goals exact ⟨ret_int (by unfold PT.size; simp), hkw⟩
        · go_wp2_with fail
          all_goals go_ret
          all_goals exact ⟨ret_int (by unfold PT.size; simp), hkw⟩
        · go_wp2_with fail
          all_goals go_ret
          all_goals exact ⟨ret_int (by unfold PT.size; simp), hkw⟩
        · have hpos : 0 < ts.length := List.length_pos_iff.2 hne
          clear hne
          go_wp2_with fail
          all_goals go_ret
          all_goals exact ⟨ret_int (by unfold PT.size; simp), hkw⟩
        · have hcp := copies_rd ⟨5, pa, ts.length, pc, sa, sn, sc, ed, gr, l0, h0, lz⟩ wr r1
          simp only [Nv.val, Nv.cells] at hcp
          generalize hcc : (if h0 = -1 then l0 + 1 else h0) = cc at hcr hm hcp
          have HCC : Hid ((if h0 = -1 then l0 + 1 else h0) = cc) := hcc
          clear hcc
          go_wp2_with fail
          refine hcp.mono ?_
          rintro e w2 ⟨rfl, hk2⟩
          go_wp2_with fail
          all_goals go_ret
          all_goals exact ⟨ret_int (by unfold PT.size; simp only [HCC.out]; simp), hkw.trans hk2⟩
end Go.Proofs.YtnbfddjaonlmaaaGreatDoor
