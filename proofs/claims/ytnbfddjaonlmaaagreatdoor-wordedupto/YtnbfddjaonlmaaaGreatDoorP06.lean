/- The program's sets of runes: setOf, slices.Clone, others, edgeOf, unicode.ToLower. The program's sets of runes: others. The program's sets of runes: newSet. The program's sets of runes: bothKinds. -/
import Derived.Test.YtnbfddjaonlmaaaGreatDoorP04
import Derived.Test.YtnbfddjaonlmaaaGreatDoorP05
import Derived.Test.YtnbfddjaonlmaaaGreatDoorP03
import Derived.Lib.SliceRun
namespace Go.Proofs.YtnbfddjaonlmaaaGreatDoor
open Go.RowKit Go.Maps
set_option linter.unusedVariables false
set_option maxRecDepth 100000

theorem own_lit (w : World) (l : Spans) (hl : l.length ≤ 100000) : (w.alloc (.cells (flat32 l).toArray 149)).ownsRow w.heap.size 149 2 (.slice (some ⟨w.heap.size, 0, none⟩) l.length l.length) l.length (flat32 l) :=
  ⟨flat32_length l, Or.inr ⟨w.heap.size, l.length, (flat32 l).toArray, rfl, Nat.le_refl _, Blk.new w _ _, Nat.le_refl _, by unfold maxLen; omega, by simp [flat32_length], by simp [List.take_of_length_le, flat32_length]⟩⟩

theorem setOf_rd (r : Int) (w : World) : Calls Tryz.prog 103 #[.int .i32 r] w fun e w' => ∃ v, e = .returned v ∧ w'.ownsRow w.heap.size 149 2 v (setSpans r).length (flat32 (setSpans r)) ∧ Kept Nil w w' := by
  unfold setSpans
  by_cases h1 : r = 100
  · rw [if_pos h1]
    subst h1
    go_enter Tryz.func103, Tryz.ntmps103
    go_wp2
    go_ret
    exact ⟨_, rfl, own_lit w [(48, 57)] (by simp), (Kept.refl _ _).alloc _⟩
  · rw [if_neg h1]
    by_cases h2 : r = 119
    · rw [if_pos h2]
      subst h2
      go_enter Tryz.func103, Tryz.ntmps103
      go_wp2
      go_ret
      exact ⟨_, rfl, own_lit w [(48, 57), (65, 90), (95, 95), (97, 122)] (by simp), (Kept.refl _ _).alloc _⟩
    · rw [if_neg h2]
      have e1 : (r == 100) = false := by simp [h1]
      have e2 : (r == 119) = false := by simp [h2]
      clear h1 h2
      go_enter Tryz.func103, Tryz.ntmps103
      go_wp2
      go_ret
      exact ⟨_, rfl, own_lit w [(9, 10), (13, 13), (32, 32)] (by simp), (Kept.refl _ _).alloc _⟩

theorem edgeOf_rd (r : Int) (w : World) : Calls Tryz.prog 87 #[.int .i32 r] w fun e w' => e = .returned (.int .i64 (edgeNo r)) ∧ w' = w := by
  go_enter Tryz.func87, Tryz.ntmps87
  go_wp2
  all_goals go_ret
  all_goals refine ⟨?_, rfl⟩
  all_goals (simp only [beq_iff_eq, beq_eq_false_iff_ne, ne_eq] at *; simp [edgeNo, *])

theorem toLower_rd (r : Int) (w : World) (h : 65 ≤ r ∧ r ≤ 90) : Calls Tryz.prog 104 #[.int .i32 r] w fun e w' => e = .returned (.int .i32 (r + 32)) ∧ w' = w := by
  have h1 : r ≤ 127 := by omega
  have h2 : 65 ≤ r := h.1
  have h3 : r ≤ 90 := h.2
  go_enter Tryz.func104, Tryz.ntmps104
  go_wp2
  all_goals go_ret
  all_goals exact ⟨rfl, rfl⟩

theorem cells_of_own {w : World} {base : Nat} {v : Value} {l : Spans} (h : w.ownsRow base 149 2 v l.length (flat32 l)) (hne : l ≠ []) : ∃ g cap, v = .slice (some ⟨g, 0, none⟩) l.length cap ∧ base ≤ g ∧ g < w.heap.size ∧ Cells32 w g l ∧ l.length ≤ cap := by
  rcases h.2 with ⟨_, h0⟩ | ⟨g, cap, cur, rfl, a1, a2, a3, a4, a5, a6⟩
  · exact absurd (List.length_eq_zero_iff.1 h0) hne
  · refine ⟨g, cap, rfl, a1, (Array.getElem?_eq_some_iff.1 a2).1, fun i hi => ?_, a3⟩
    have hf := flat32_get l i hi
    have hcell : ∀ j x, j < l.length * 2 → (flat32 l)[j]? = some x → w.cell? ⟨g, j, none⟩ = some x := by
      intro j x hj hx
      rw [← a6, List.getElem?_take_of_lt hj] at hx
      simp only [World.cell?, a2]
      simpa using hx
    exact ⟨hcell _ _ (by omega) hf.1, hcell _ _ (by omega) hf.2⟩
theorem cells_add {w : World} {b : Nat} {l : Spans} (h : Cells32 w b l) : ∀ j u, (flat32 l)[j]? = some u → w.cell? (Addr.add ⟨b, 0, none⟩ j) = some u := by
  intro j u hj
  have e : Addr.add ⟨b, 0, none⟩ j = ⟨b, j, none⟩ := by
    unfold Addr.add
    split
    · rename_i hz; simp
    · simp
  have hlt : j < l.length * 2 := by rw [← flat32_length]; exact (List.getElem?_eq_some_iff.1 hj).1
  have hi : j / 2 < l.length := by omega
  have hc := h (j / 2) hi
  have hf := flat32_get l (j / 2) hi
  rw [e]
  rcases Nat.mod_two_eq_zero_or_one j with h0 | h0
  · have e2 : j = j / 2 * 2 := by omega
    rw [show (flat32 l)[j]? = (flat32 l)[j / 2 * 2]? by congr 1, hf.1] at hj
    rw [show w.cell? ⟨b, j, none⟩ = w.cell? ⟨b, j / 2 * 2, none⟩ by congr 2, hc.1]; exact hj
  · have e2 : j = j / 2 * 2 + 1 := by omega
    rw [show (flat32 l)[j]? = (flat32 l)[j / 2 * 2 + 1]? by congr 1, hf.2] at hj
    rw [show w.cell? ⟨b, j, none⟩ = w.cell? ⟨b, j / 2 * 2 + 1, none⟩ by congr 2, hc.2]; exact hj

theorem clone_rd {w : World} {b cap : Nat} {l : Spans} (hc : Cells32 w b l) (hl : l.length ≤ 100000) (hb : b < w.heap.size) :
    Calls Tryz.prog 117 #[.slice (some ⟨b, 0, none⟩) l.length cap] w fun e w' => ∃ v, e = .returned v ∧ w'.ownsRow w.heap.size 149 2 v l.length (flat32 l) ∧ Kept Nil w w' := by
  obtain ⟨i0, hi0, hz0, hz1, hz2⟩ := info_parts Tryz.infoSpan32
  have hc1 := hc.kept ((Kept.refl Nil w).alloc (.cells (flat32 []).toArray 149)) hb (fun hx => hx)
  have q22 : ∀ (W : World) (n c : Nat), (binOp .eql 52 (.slice (some ⟨b, 0, none⟩) n c) (.slice none 0 0)).run Tryz.prog W = .ok (.bool false) W := fun W n c => Lib.run_eql_slice_nil W _ _ (some ⟨b, 0, none⟩) n c 0 0 Tryz.underlying52
  go_enter Tryz.func117, Tryz.ntmps117
  go_wp2_with (at_builtin; refine wpList_append_own_at _ rfl _ _ 52 rfl w.heap.size 149 i0 _ 2 8 Tryz.underlying52 hi0 hz0 hz1 hz2 rfl (by decide) _ 0 [] rfl (own_lit w [] (by simp)) ⟨b, 0, none⟩ l.length cap (flat32 l) rfl (flat32_length l) (cells_add hc1) (flat32_one l) ?c3 ?c4 ?c5 ?_)
  case c3 => unfold maxLen; omega
  case c4 => omega
  case c5 => simp
  intro v' w7 hown' hgrow hnil hloc
  go_wp2_with fail
  go_ret
  refine ⟨v', rfl, by simpa using hown', ?_⟩
  refine ((Kept.refl Nil w).alloc _).trans' ((Kept.refl (fun i => i = w.heap.size) _).grown hgrow (fun k hk => Or.inl ?_)) (fun i hi he => by omega)
  simp [Value.ownBlock] at hk
  exact hk.symm
end Go.Proofs.YtnbfddjaonlmaaaGreatDoor

namespace Go.Proofs.YtnbfddjaonlmaaaGreatDoor
open Go.RowKit Go.Maps
set_option linter.unusedVariables false
set_option maxRecDepth 100000

theorem ownsRow_slice32 {w : World} {base e size n : Nat} {v : Value} {xs : List Value} (h : w.ownsRow base e size v n xs) : ∃ ao cap, v = .slice ao n cap := by
  rcases h.2 with ⟨rfl, h0⟩ | ⟨g, cap, cur, rfl, _⟩
  · exact ⟨none, 0, by rw [h0]⟩
  · exact ⟨_, cap, rfl⟩
theorem own32_block {w : World} {base e size n : Nat} {v : Value} {xs : List Value} (h : w.ownsRow base e size v n xs) {b : Nat} (hb : v.ownBlock = some b) : base ≤ b ∧ b < w.heap.size := by
  rcases h.2 with ⟨rfl, _⟩ | ⟨g, cap, cur, rfl, h1, h2, _⟩
  · simp [Value.ownBlock] at hb
  · simp [Value.ownBlock] at hb
    subst hb
    exact ⟨h1, (Array.getElem?_eq_some_iff.1 h2).1⟩
/-- one more span -/
theorem own32_snoc {w' : World} {base : Nat} {v' : Value} {l : Spans} {x : Int × Int} (hown : w'.ownsRow base 149 2 v' (l.length + 1) (flat32 l ++ [.int .i32 x.1, .int .i32 x.2])) : w'.ownsRow base 149 2 v' (l ++ [x]).length (flat32 (l ++ [x])) := by
  rw [flat32_append, List.length_append]
  exact hown
theorem kept_own {w w1 w' : World} {base : Nat} {v : Value} {n : Nat} {xs : List Value} (h : w1.ownsRow base 149 2 v n xs) (hb : w.heap.size ≤ base) (k : Kept Nil w w1) {o : Obj} (hg : (w1.alloc o).grownBy w' v.ownBlock) : Kept Nil w w' := by
  have k2 : Kept (fun i => w.heap.size ≤ i) w1 w' := ((Kept.refl _ w1).alloc o).grown hg (fun i hi => Or.inl (by have := (own32_block h hi).1; omega))
  exact k.trans' k2 (fun i hi he => by omega)

theorem box_kept {w1 w' : World} {base : Nat} {v : Value} {n : Nat} {xs : List Value} (hown : w1.ownsRow base 149 2 v n xs) (cs : Array Value) (t : TypeId) {o : Obj} (hg : ((w1.alloc (.cells cs t)).alloc o).grownBy w' v.ownBlock) : Blk w' w1.heap.size cs t := by
  have hb : Blk ((w1.alloc (.cells cs t)).alloc o) w1.heap.size cs t := (Blk.new w1 cs t).alloc o
  exact (hg.block _ hb.lt (fun e => by have := (own32_block hown e.symm).2; omega)).trans hb

set_option maxHeartbeats 1000000 in
theorem others_rd {w : World} {b cap : Nat} {ao : Option Addr} {l : Spans} (hao : l ≠ [] → ao = some ⟨b, 0, none⟩) (hc : Cells32 w b l) (hr : RuneSp l) (hl : l.length ≤ 90000) (hb : l ≠ [] → b < w.heap.size) :
    Calls Tryz.prog 108 #[.slice ao l.length cap] w fun e w' => ∃ v, e = .returned v ∧ w'.ownsRow w.heap.size 149 2 v (othersOf l).length (flat32 (othersOf l)) ∧ Kept Nil w w' := by
  obtain ⟨i0, hi0, hz0, hz1, hz2⟩ := info_parts Tryz.infoSpan32
  unfold othersOf
  go_enter Tryz.func108, Tryz.ntmps108
  go_wp2_with fail
  go_loopg [3, 4, 9] l.length (fun kk v nx i wr => ∃ j : Nat, j ≤ l.length ∧ i = .int .i64 j ∧ nx = .int .i32 ((l.take j).foldl othStep ([], 0)).2 ∧ kk = l.length - j ∧ wr.ownsRow w.heap.size 149 2 v ((l.take j).foldl othStep ([], 0)).1.length (flat32 ((l.take j).foldl othStep ([], 0)).1) ∧ Kept Nil w wr)
  case atStart => exact ⟨0, Nat.zero_le _, rfl, by simp, rfl, World.ownsRow_nil _ _ _ _, Kept.refl _ _⟩
  case round =>
    obtain ⟨j, hj, rfl, rfl, rfl, hown, hk⟩ := hrel
    obtain ⟨rl1, rl2, rl3⟩ := oth_rune_len (l.take j) (fun s hs => hr s (List.mem_of_mem_take hs))
    have hlj : (l.take j).length ≤ l.length := by simp; omega
    have hks := hk.size
    by_cases hlt : j < l.length
    · have hne : l ≠ [] := by intro e; subst e; simp at hlt
      have hb' := hb hne
      have q0 : wr.cell? ⟨b, j * 2, none⟩ = some (.int .i32 (l[j]).1) := (hk.cell (p := ⟨b, j * 2, none⟩) hb' (fun hx => hx)).trans (hc j hlt).1
      have q1 : wr.cell? ⟨b, j * 2 + 1, none⟩ = some (.int .i32 (l[j]).2) := (hk.cell (p := ⟨b, j * 2 + 1, none⟩) hb' (fun hx => hx)).trans (hc j hlt).2
      have hrj := hr l[j] (List.getElem_mem hlt)
      have STK : Hid ((l.take (j + 1)).foldl othStep ([], 0) = othStep ((l.take j).foldl othStep ([], 0)) l[j]) := oth_take_succ l j hlt
      have hao' := hao hne
      subst hao'
      clear hc hr hao hb
      generalize (l.take j).foldl othStep ([], 0) = X at *
      obtain ⟨x1, x2⟩ := X
      simp only at *
      generalize l[j] = s at *
      obtain ⟨s1, s2⟩ := s
      simp only at *
      by_cases hcmp : x2 < s1
      · have hst : Hid ((l.take (j + 1)).foldl othStep ([], 0) = (x1 ++ [(x2, s1 - 1)], s2 + 1)) := by show _ = _; rw [STK.out]; simp [othStep, hcmp]
        clear STK
        go_wp2_with (at_builtin; refine wpList_append_own_at _ rfl _ _ 53 rfl w.heap.size 149 i0 _ 2 8 Tryz.underlying53 hi0 hz0 hz1 hz2 rfl (by decide) _ x1.length _ rfl ((hown.alloc _).alloc _) ⟨wr.heap.size + 1, 0, none⟩ 1 1 [.int .i32 x2, .int .i32 (s1 - 1)] rfl rfl ?c1 ?c2 ?c3 ?c4 ?c5 ?_)
        case c1 => intro j' u h; have := new32 (wr.alloc (.cells #[.int .i32 s1, .int .i32 s2] 149)) #[.int .i32 x2, .int .i32 (s1 - 1)] 149 j' u h; rwa [World.size_alloc] at this
        case c2 => intro u hu; simp at hu; rcases hu with rfl | rfl <;> rfl
        case c3 => unfold maxLen; omega
        case c4 => omega
        case c5 => simp; omega
        intro v' w7 hown' hgrow hnil hloc
        have hk7 := kept_own (hown.alloc (.cells #[.int .i32 s1, .int .i32 s2] 149)) (Nat.le_refl _) (hk.alloc _) hgrow
        have hbx := box_kept hown #[.int .i32 s1, .int .i32 s2] 149 hgrow
        have hx : w7.cell? ⟨wr.heap.size, 1, none⟩ = some (.int .i32 s2) := hbx.cell 1
        have hown2 := own32_snoc (x := (x2, s1 - 1)) hown'
        clear hown' hgrow hloc hnil hown
        go_wp2_with fail
        go_roundg (l.length - (j + 1))
        case measure => omega
        case rel => exact ⟨j + 1, by omega, by go_num, by rw [hst.out], rfl, by rw [hst.out]; exact hown2, hk7⟩
      · have hst : Hid ((l.take (j + 1)).foldl othStep ([], 0) = (x1, s2 + 1)) := by show _ = _; rw [STK.out]; simp [othStep, hcmp]
        clear STK
        have hbx := Blk.new wr #[.int .i32 s1, .int .i32 s2] 149
        have hx0 : (wr.alloc (.cells #[.int .i32 s1, .int .i32 s2] 149)).cell? ⟨wr.heap.size, 0, none⟩ = some (.int .i32 s1) := hbx.cell 0
        have hx : (wr.alloc (.cells #[.int .i32 s1, .int .i32 s2] 149)).cell? ⟨wr.heap.size, 1, none⟩ = some (.int .i32 s2) := hbx.cell 1
        go_wp2_with fail
        go_roundg (l.length - (j + 1))
        case measure => omega
        case rel => exact ⟨j + 1, by omega, by go_num, by rw [hst.out], rfl, by rw [hst.out]; exact hown.alloc _, hk.alloc _⟩
    · have ej : j = l.length := by omega
      subst ej
      rw [List.take_length] at *
      clear hc hr hao hb
      generalize hX : l.foldl othStep ([], 0) = X at *
      obtain ⟨x1, x2⟩ := X
      have HX : Hid (l.foldl othStep ([], 0) = (x1, x2)) := hX
      clear hX
      simp only at *
      by_cases hcmp : x2 ≤ 1114111
      · go_wp2_with (at_builtin; refine wpList_append_own_at _ rfl _ _ 53 rfl w.heap.size 149 i0 _ 2 8 Tryz.underlying53 hi0 hz0 hz1 hz2 rfl (by decide) _ x1.length _ rfl (hown.alloc _) ⟨wr.heap.size, 0, none⟩ 1 1 [.int .i32 x2, .int .i32 1114111] rfl rfl ?c1 ?c2 ?c3 ?c4 ?c5 ?_)
        case c1 => intro j' u h; exact new32 wr #[.int .i32 x2, .int .i32 1114111] 149 j' u h
        case c2 => intro u hu; simp at hu; rcases hu with rfl | rfl <;> rfl
        case c3 => unfold maxLen; omega
        case c4 => omega
        case c5 => simp; omega
        intro v' w7 hown' hgrow hnil hloc
        have hk7 := kept_own hown (Nat.le_refl _) hk hgrow
        have hown2 := own32_snoc (x := (x2, 1114111)) hown'
        clear hown' hgrow hloc hnil hown
        go_wp2_with fail
        go_ret
        refine ⟨_, rfl, ?_, hk7⟩
        rw [HX.out, show othEnd (x1, x2) = x1 ++ [(x2, 1114111)] from if_pos hcmp]
        exact hown2
      · go_wp2_with fail
        go_ret
        refine ⟨_, rfl, ?_, hk⟩
        rw [HX.out, show othEnd (x1, x2) = x1 from if_neg (by simpa using hcmp)]
        exact hown
end Go.Proofs.YtnbfddjaonlmaaaGreatDoor

namespace Go.Proofs.YtnbfddjaonlmaaaGreatDoor
open Go.RowKit Go.Maps
set_option linter.unusedVariables false
set_option maxRecDepth 100000

theorem own32_base {w : World} {base base' e size n : Nat} {v : Value} {xs : List Value} (h : w.ownsRow base e size v n xs) (hb : base' ≤ base) : w.ownsRow base' e size v n xs := by
  obtain ⟨h1, h2⟩ := h
  refine ⟨h1, ?_⟩
  rcases h2 with h2 | ⟨g, cap, cur, rfl, a1, r⟩
  · exact Or.inl h2
  · exact Or.inr ⟨g, cap, cur, rfl, by omega, r⟩
theorem own32_kept {w w' : World} {base e size n : Nat} {v : Value} {xs : List Value} {S : Nat → Prop} (h : w.ownsRow base e size v n xs) (k : Kept S w w') (hs : ∀ b, v.ownBlock = some b → ¬ S b) : w'.ownsRow base e size v n xs := by
  obtain ⟨h1, h2⟩ := h
  refine ⟨h1, ?_⟩
  rcases h2 with h2 | ⟨g, cap, cur, rfl, a1, a2, r⟩
  · exact Or.inl h2
  · exact Or.inr ⟨g, cap, cur, rfl, a1, (k.block g (Array.getElem?_eq_some_iff.1 a2).1 (hs g rfl)).trans a2, r⟩

theorem flat32_set (a : Spans) (p : Int × Int) (m : Int) : (flat32 (a ++ [p])).set (a.length * 2 + 1) (.int .i32 m) = flat32 (a ++ [(p.1, m)]) := by
  rw [flat32_append, flat32_append]
  have h : (flat32 a).length = a.length * 2 := flat32_length a
  rw [List.set_append_right _ _ (by omega), h, show a.length * 2 + 1 - a.length * 2 = 1 by omega]
  rfl
/-- the end of the last span is written anew -/
theorem own32_setTo {w : World} {base g cap : Nat} {a : Spans} {p : Int × Int} (m : Int) (h : w.ownsRow base 149 2 (.slice (some ⟨g, 0, none⟩) (a.length + 1) cap) (a.length + 1) (flat32 (a ++ [p]))) :
    (w.setCell ⟨g, a.length * 2 + 1, none⟩ (.int .i32 m)).ownsRow base 149 2 (.slice (some ⟨g, 0, none⟩) (a.length + 1) cap) (a.length + 1) (flat32 (a ++ [(p.1, m)])) ∧ w.frozen? ⟨g, a.length * 2 + 1, none⟩ = false := by
  rcases h.2 with ⟨he, _⟩ | ⟨g', cap', cur, he, a1, a2, a3, a4, a5, a6⟩
  · cases he
  · cases he
    refine ⟨⟨by rw [flat32_length]; simp, Or.inr ⟨g, cap, cur.setIfInBounds (a.length * 2 + 1) (.int .i32 m), rfl, a1, ?_, a3, a4, by simpa using a5, ?_⟩⟩, by simp [World.frozen?, a2]⟩
    · exact Blk.setCell (show Blk w g cur _ from a2) _ _
    · rw [Array.toList_setIfInBounds, ← flat32_set, ← a6, List.take_set]

theorem kept_own2 {w w1 W w' : World} {base : Nat} {v : Value} {n : Nat} {xs : List Value} (h : w1.ownsRow base 149 2 v n xs) (hb : w.heap.size ≤ base) (k : Kept Nil w w1) (kW : Kept Nil w1 W) (hg : W.grownBy w' v.ownBlock) : Kept Nil w w' := by
  have k2 : Kept (fun i => w.heap.size ≤ i) w1 w' := (kW.mono (fun _ hx => hx.elim)).grown hg (fun i hi => Or.inl (by have := (own32_block h hi).1; omega))
  exact k.trans' k2 (fun i hi he => by omega)

theorem values_rd (ao : Option Addr) (n c : Nat) (w : World) : Calls Tryz.prog 119 #[.slice ao n c] w fun e w' => e = .returned (.func (.func 126) #[] #[.pointer (some ⟨w.heap.size, 0, none⟩)]) ∧ w' = w.alloc (.cells #[.slice ao n c] 52) := by
  go_enter Tryz.func119, Tryz.ntmps119
  go_wp2
  go_ret
  exact ⟨rfl, rfl⟩

set_option maxHeartbeats 2000000 in
theorem newSet_rd {w : World} {b cap : Nat} {l : Spans} (hc : Cells32 w b l) (hr : RuneSp l) (hl : l.length ≤ 80000) (hne : l ≠ []) (hb : b < w.heap.size) :
    Calls Tryz.prog 107 #[.slice (some ⟨b, 0, none⟩) l.length cap] w fun e w' => ∃ l' v, l'.Perm l ∧ l'.Pairwise (fun a b => a.1 ≤ b.1) ∧ e = .returned v ∧ w'.ownsRow w.heap.size 149 2 v (mergeAll l').length (flat32 (mergeAll l')) ∧ Kept Nil w w' := by
  obtain ⟨i0, hi0, hz0, hz1, hz2⟩ := info_parts Tryz.infoSpan32
  go_enter Tryz.func107, Tryz.ntmps107
  go_wp2_with fail
  refine (values_rd _ _ _ w).mono ?_
  rintro e w1 ⟨rfl, rfl⟩
  have hc1 := hc.kept ((Kept.refl Nil w).alloc (.cells #[.slice (some ⟨b, 0, none⟩) l.length cap] 52)) hb (fun hx => hx)
  have hk0 : Kept Nil w (w.alloc (.cells #[.slice (some ⟨b, 0, none⟩) l.length cap] 52)) := (Kept.refl Nil w).alloc _
  have hbx := (Blk.new w #[.slice (some ⟨b, 0, none⟩) l.length cap] 52).cell 0
  go_wp2_with fail
  refine (sortedFunc_any w.heap.size b cap l (by omega) hne _ (by simp) (by simp; omega) hbx hc1).mono ?_
  rintro e w2 ⟨l', gb, gcap, rfl, hp, hs, hcs, hg1, hg2, hk2⟩
  have hk02 := hk0.trans hk2
  have hs2 := hk02.size
  rw [World.size_alloc] at hg1
  have hr' : RuneSp l' := fun s h => hr s (hp.mem_iff.1 h)
  have hll : l'.length ≤ 80000 := by have := hp.length_eq; omega
  clear hc1 hk0 hbx hk2
  go_wp2_with fail
  go_loopg [4, 13] l'.length (fun kk v i wr => ∃ j : Nat, j ≤ l'.length ∧ i = .int .i64 j ∧ kk = l'.length - j ∧ wr.ownsRow w2.heap.size 149 2 v (mergeAll (l'.take j)).length (flat32 (mergeAll (l'.take j))) ∧ Kept Nil w2 wr)
  case atStart => exact ⟨0, Nat.zero_le _, rfl, rfl, World.ownsRow_nil _ _ _ _, Kept.refl _ _⟩
  case round =>
    obtain ⟨j, hj, rfl, rfl, hown, hk⟩ := hrel
    obtain ⟨rl1, rl2⟩ := mergeAll_rune_len (l'.take j) (fun s hs => hr' s (List.mem_of_mem_take hs))
    have hlj : (l'.take j).length ≤ l'.length := by simp; omega
    have hks := hk.size
    by_cases hlt : j < l'.length
    · have q0 : wr.cell? ⟨gb, j * 2, none⟩ = some (.int .i32 (l'[j]).1) := (hk.cell (p := ⟨gb, j * 2, none⟩) hg2 (fun hx => hx)).trans (hcs j hlt).1
      have q1 : wr.cell? ⟨gb, j * 2 + 1, none⟩ = some (.int .i32 (l'[j]).2) := (hk.cell (p := ⟨gb, j * 2 + 1, none⟩) hg2 (fun hx => hx)).trans (hcs j hlt).2
      have hrj := hr' l'[j] (List.getElem_mem hlt)
      have STK : Hid (mergeAll (l'.take (j + 1)) = mergeStep (mergeAll (l'.take j)) l'[j]) := mergeAll_take_succ l' j hlt
      have HS : Hid (Cells32 w2 gb l' ∧ RuneSp l' ∧ l'.Perm l ∧ l'.Pairwise (fun a b => a.1 ≤ b.1)) := ⟨hcs, hr', hp, hs⟩
      clear hc hr hcs hr' hp hs
      generalize mergeAll (l'.take j) = X at *
      generalize l'[j] = s at *
      obtain ⟨s1, s2⟩ := s
      simp only at *
      have hbx := Blk.new wr #[.int .i32 s1, .int .i32 s2] 149
      have x0 : (wr.alloc (.cells #[.int .i32 s1, .int .i32 s2] 149)).cell? ⟨wr.heap.size, 0, none⟩ = some (.int .i32 s1) := hbx.cell 0
      have x1 : (wr.alloc (.cells #[.int .i32 s1, .int .i32 s2] 149)).cell? ⟨wr.heap.size, 1, none⟩ = some (.int .i32 s2) := hbx.cell 1
      rcases snoc_cases X with rfl | ⟨a, p, rfl⟩
      · have hst : Hid (mergeAll (l'.take (j + 1)) = [(s1, s2)]) := STK.out
        clear STK
        obtain ⟨ao, c3, hv3⟩ := ownsRow_slice32 hown
        rw [hv3] at hown ⊢
        clear hv3
        go_wp2_with fail
        go_region
        all_goals go_wp2_with (at_builtin; refine wpList_append_own_at _ rfl _ _ 53 rfl w2.heap.size 149 i0 _ 2 8 Tryz.underlying53 hi0 hz0 hz1 hz2 rfl (by decide) _ ([] : Spans).length _ rfl ((hown.alloc (.cells #[.int .i32 s1, .int .i32 s2] 149)).alloc (.cells #[.int .i32 s1, .int .i32 s2] 149)) ⟨wr.heap.size + 1, 0, none⟩ 1 1 [.int .i32 s1, .int .i32 s2] rfl rfl ?c1 ?c2 ?c3 ?c4 ?c5 ?_)
        case c1 => intro j' u h; have := new32 (wr.alloc (.cells #[.int .i32 s1, .int .i32 s2] 149)) #[.int .i32 s1, .int .i32 s2] 149 j' u h; rwa [World.size_alloc] at this
        case c2 => intro u hu; simp at hu; rcases hu with rfl | rfl <;> rfl
        case c3 => unfold maxLen; first | omega | (simp; done) | (simp; omega)
        case c4 => first | omega | (simp; done) | (simp; omega)
        case c5 => simp; omega
        intro v' w7 hown' hgrow hnil hloc
        have hk7 := kept_own2 hown (Nat.le_refl _) hk ((((Kept.refl Nil wr).alloc (.cells #[.int .i32 s1, .int .i32 s2] 149)).alloc (.cells #[.int .i32 s1, .int .i32 s2] 149)).drew) hgrow
        have hown2 := own32_snoc (x := (s1, s2)) hown'
        clear hown' hgrow hloc hnil hown
        go_wp2_with fail
        go_roundg (l'.length - (j + 1))
        case measure => omega
        case rel => exact ⟨j + 1, by omega, by go_num, rfl, by rw [hst.out]; exact hown2, hk7⟩
      · obtain ⟨g, gc, hv3, hg3, hg4, hcc, hcap⟩ := cells_of_own hown (by simp)
        have hlen1 : (a ++ [p]).length = a.length + 1 := by simp
        rw [hlen1] at hv3 hown
        subst hv3
        have p1 := (hcc a.length (by simp)).2
        have ep : (a ++ [p])[a.length]'(by simp) = p := by simp
        rw [ep] at p1
        have p1' : (wr.alloc (.cells #[.int .i32 s1, .int .i32 s2] 149)).cell? ⟨g, a.length * 2 + 1, none⟩ = some (.int .i32 p.2) := (((Kept.refl Nil wr).alloc _).cell (p := ⟨g, a.length * 2 + 1, none⟩) hg4 (fun hx => hx)).trans p1
        clear hcc p1
        rw [hlen1] at rl2
        by_cases hm : s1 ≤ p.2
        · have hst : Hid (mergeAll (l'.take (j + 1)) = a ++ [(p.1, max p.2 s2)]) := by show _ = _; rw [STK.out, mergeStep_snoc, if_pos hm]
          clear STK
          have hset := own32_setTo (max p.2 s2) (hown.alloc (.cells #[.int .i32 s1, .int .i32 s2] 149))
          have f1 := hset.2
          have hset1 := ((own32_setTo (max p.2 s2) hown).1).alloc (.cells #[.int .i32 s1, .int .i32 s2] 149)
          clear hset
          go_wp2_with fail
          go_region
          all_goals go_wp2_with fail
          go_region
          all_goals go_wp2_with fail
          go_roundg (l'.length - (j + 1))
          case measure => omega
          case rel =>
            refine ⟨j + 1, by omega, by go_num, rfl, by rw [hst.out, List.length_append]; exact hset1, ?_⟩
            exact ((hk.trans' ((Kept.refl (fun i => i = g) wr).setCell (p := ⟨g, a.length * 2 + 1, none⟩) (Or.inl rfl) (.int .i32 (max p.2 s2))) (fun i hi he => by omega)).alloc _).drew.drew
        · have hst : Hid (mergeAll (l'.take (j + 1)) = a ++ [p] ++ [(s1, s2)]) := by show _ = _; rw [STK.out, mergeStep_snoc, if_neg hm]
          clear STK
          go_wp2_with fail
          go_region
          all_goals go_wp2_with (at_builtin; refine wpList_append_own_at _ rfl _ _ 53 rfl w2.heap.size 149 i0 _ 2 8 Tryz.underlying53 hi0 hz0 hz1 hz2 rfl (by decide) _ (a.length + 1) _ rfl ((hown.alloc (.cells #[.int .i32 s1, .int .i32 s2] 149)).alloc (.cells #[.int .i32 s1, .int .i32 s2] 149)) ⟨wr.heap.size + 1, 0, none⟩ 1 1 [.int .i32 s1, .int .i32 s2] rfl rfl ?c1 ?c2 ?c3 ?c4 ?c5 ?_)
          case c1 => intro j' u h; have := new32 (wr.alloc (.cells #[.int .i32 s1, .int .i32 s2] 149)) #[.int .i32 s1, .int .i32 s2] 149 j' u h; rwa [World.size_alloc] at this
          case c2 => intro u hu; simp at hu; rcases hu with rfl | rfl <;> rfl
          case c3 => unfold maxLen; first | omega | (simp; done) | (simp; omega)
          case c4 => first | omega | (simp; done) | (simp; omega)
          case c5 => simp; omega
          intro v' w7 hown' hgrow hnil hloc
          have hk7 := kept_own2 hown (Nat.le_refl _) hk ((((Kept.refl Nil wr).alloc (.cells #[.int .i32 s1, .int .i32 s2] 149)).alloc (.cells #[.int .i32 s1, .int .i32 s2] 149)).drew) hgrow
          rw [← hlen1] at hown'
          have hown2 := own32_snoc (x := (s1, s2)) hown'
          clear hown' hgrow hloc hnil hown
          go_wp2_with fail
          go_roundg (l'.length - (j + 1))
          case measure => omega
          case rel => exact ⟨j + 1, by omega, by go_num, rfl, by rw [hst.out]; exact hown2, hk7⟩
    · have ej : j = l'.length := by omega
      subst ej
      rw [List.take_length] at *
      clear hc hr
      go_wp2_with fail
      go_ret
      exact ⟨l', _, hp, hs, rfl, own32_base hown hs2, hk02.trans hk⟩
end Go.Proofs.YtnbfddjaonlmaaaGreatDoor

namespace Go.Proofs.YtnbfddjaonlmaaaGreatDoor
open Go.RowKit Go.Maps
set_option linter.unusedVariables false
set_option maxRecDepth 100000

set_option maxHeartbeats 2000000 in
theorem bothKinds_rd {w : World} {b cap : Nat} {l : Spans} (hc : Cells32 w b l) (hr : RuneSp l) (hl : l.length ≤ 20000) (hne : l ≠ []) (hb : b < w.heap.size) :
    Calls Tryz.prog 106 #[.slice (some ⟨b, 0, none⟩) l.length cap] w fun e w' => ∃ v, e = .returned v ∧ w'.ownsRow w.heap.size 149 2 v (bothOf l).length (flat32 (bothOf l)) ∧ Kept Nil w w' := by
  obtain ⟨i0, hi0, hz0, hz1, hz2⟩ := info_parts Tryz.infoSpan32
  unfold bothOf
  go_enter Tryz.func106, Tryz.ntmps106
  go_wp2_with fail
  refine (clone_rd (cap := cap) hc (by omega) hb).mono ?_
  rintro e w1 ⟨v1, rfl, hv1, hk1⟩
  go_wp2_with fail
  go_loopg [3, 12] l.length (fun kk v i wr => ∃ j : Nat, j ≤ l.length ∧ i = .int .i64 j ∧ kk = l.length - j ∧ wr.ownsRow w.heap.size 149 2 v ((l.take j).foldl bothStep l).length (flat32 ((l.take j).foldl bothStep l)) ∧ Kept Nil w wr)
  case atStart => exact ⟨0, Nat.zero_le _, rfl, rfl, hv1, hk1⟩
  case round =>
    obtain ⟨j, hj, rfl, rfl, hown, hk⟩ := hrel
    have hlen := (both_rune_len (l.take j) l (fun s hs => hr s (List.mem_of_mem_take hs)) hr).2
    have hlj : (l.take j).length ≤ l.length := by simp; omega
    have hks := hk.size
    clear hv1 hk1
    by_cases hlt : j < l.length
    · have q0 : wr.cell? ⟨b, j * 2, none⟩ = some (.int .i32 (l[j]).1) := (hk.cell (p := ⟨b, j * 2, none⟩) hb (fun hx => hx)).trans (hc j hlt).1
      have q1 : wr.cell? ⟨b, j * 2 + 1, none⟩ = some (.int .i32 (l[j]).2) := (hk.cell (p := ⟨b, j * 2 + 1, none⟩) hb (fun hx => hx)).trans (hc j hlt).2
      have hrj := hr l[j] (List.getElem_mem hlt)
      have STK : Hid ((l.take (j + 1)).foldl bothStep l = bothStep ((l.take j).foldl bothStep l) l[j]) := both_take_succ l l j hlt
      have HS : Hid (Cells32 w b l ∧ RuneSp l) := ⟨hc, hr⟩
      clear hc hr
      generalize (l.take j).foldl bothStep l = X at *
      generalize l[j] = s at *
      obtain ⟨s1, s2⟩ := s
      simp only at *
      have hbx := Blk.new wr #[.int .i32 s1, .int .i32 s2] 149
      have x0 : (wr.alloc (.cells #[.int .i32 s1, .int .i32 s2] 149)).cell? ⟨wr.heap.size, 0, none⟩ = some (.int .i32 s1) := hbx.cell 0
      have x1 : (wr.alloc (.cells #[.int .i32 s1, .int .i32 s2] 149)).cell? ⟨wr.heap.size, 1, none⟩ = some (.int .i32 s2) := hbx.cell 1
      by_cases hsm : max s1 97 ≤ min s2 122
      · have HX : Hid (smallStep X (s1, s2) = X ++ [(max s1 97 + -32, min s2 122 + -32)]) := by show _ = _; simp [smallStep, hsm, Int.sub_eq_add_neg]
        go_wp2_with (at_builtin; refine wpList_append_own_at _ rfl _ _ 52 rfl w.heap.size 149 i0 _ 2 8 Tryz.underlying52 hi0 hz0 hz1 hz2 rfl (by decide) _ X.length _ rfl (((hown.alloc (.cells #[.int .i32 s1, .int .i32 s2] 149)).alloc (.cells #[.int .i32 (max s1 97), .int .i32 (min s2 122)] 149)).alloc (.cells #[.int .i32 (max s1 97 + -32), .int .i32 (min s2 122 + -32)] 149)) ⟨wr.heap.size + 1 + 1, 0, none⟩ 1 1 [.int .i32 (max s1 97 + -32), .int .i32 (min s2 122 + -32)] rfl rfl ?c1 ?c2 ?c3 ?c4 ?c5 ?_)
        case c1 => intro j' u h; have := new32 ((wr.alloc (.cells #[.int .i32 s1, .int .i32 s2] 149)).alloc (.cells #[.int .i32 (max s1 97), .int .i32 (min s2 122)] 149)) #[.int .i32 (max s1 97 + -32), .int .i32 (min s2 122 + -32)] 149 j' u h; simpa using this
        case c2 => first | exact ⟨rfl, rfl⟩ | (intro u hu; simp at hu; rcases hu with rfl | rfl <;> rfl)
        case c3 => unfold maxLen; omega
        case c4 => omega
        case c5 => first | omega | (simp; omega)
        intro v7 w7 hown' hgrow hnil hloc
        have hk7 := kept_own2 hown (Nat.le_refl _) hk ((((Kept.refl Nil wr).alloc (.cells #[.int .i32 s1, .int .i32 s2] 149)).alloc (.cells #[.int .i32 (max s1 97), .int .i32 (min s2 122)] 149)).alloc _) hgrow
        have hb7 : Blk w7 wr.heap.size #[.int .i32 s1, .int .i32 s2] 149 := (hgrow.block _ (by simp; omega) (fun e => by have := (own32_block hown e.symm).2; omega)).trans (((hbx.alloc (.cells #[.int .i32 (max s1 97), .int .i32 (min s2 122)] 149)).alloc _))
        have hown7 := own32_snoc (x := (max s1 97 + -32, min s2 122 + -32)) hown'
        rw [← HX.out] at hown7
        have hl7 := (smallStep_len X (s1, s2)).2
        generalize hX7 : smallStep X (s1, s2) = X7 at *
        have HX7 : Hid (smallStep X (s1, s2) = X7) := hX7
        clear hX7
        have y0 : w7.cell? ⟨wr.heap.size, 0, none⟩ = some (.int .i32 s1) := hb7.cell 0
        have y1 : w7.cell? ⟨wr.heap.size, 1, none⟩ = some (.int .i32 s2) := hb7.cell 1
        have hs7 := hk7.size
        clear hown' hgrow hloc hnil hown x0 x1 hbx hk
        by_cases hgr : max s1 65 ≤ min s2 90
        · have HY : Hid (greatStep X7 (s1, s2) = X7 ++ [(max s1 65 + 32, min s2 90 + 32)]) := by show _ = _; simp [greatStep, hgr]
          go_wp2_with (at_builtin; refine wpList_append_own_at _ rfl _ _ 52 rfl w.heap.size 149 i0 _ 2 8 Tryz.underlying52 hi0 hz0 hz1 hz2 rfl (by decide) _ X7.length _ rfl ((hown7.alloc (.cells #[.int .i32 (max s1 65), .int .i32 (min s2 90)] 149)).alloc (.cells #[.int .i32 (max s1 65 + 32), .int .i32 (min s2 90 + 32)] 149)) ⟨w7.heap.size + 1, 0, none⟩ 1 1 [.int .i32 (max s1 65 + 32), .int .i32 (min s2 90 + 32)] rfl rfl ?c1 ?c2 ?c3 ?c4 ?c5 ?_)
          case c1 => intro j' u h; have := new32 ((w7).alloc (.cells #[.int .i32 (max s1 65), .int .i32 (min s2 90)] 149)) #[.int .i32 (max s1 65 + 32), .int .i32 (min s2 90 + 32)] 149 j' u h; simpa using this
          case c2 => first | exact ⟨rfl, rfl⟩ | (intro u hu; simp at hu; rcases hu with rfl | rfl <;> rfl)
          case c3 => unfold maxLen; omega
          case c4 => omega
          case c5 => first | omega | (simp; omega)
          intro v8 w8 hown' hgrow hnil hloc
          have hk8 := kept_own2 (hown7) (Nat.le_refl _) (hk7) (((Kept.refl Nil _).alloc (.cells #[.int .i32 (max s1 65), .int .i32 (min s2 90)] 149)).alloc _) hgrow
          have hown8 := own32_snoc (x := (max s1 65 + 32, min s2 90 + 32)) hown'
          rw [← HY.out] at hown8
          clear hown' hgrow hloc hnil
          go_wp2_with fail
          go_roundg (l.length - (j + 1))
          case measure => omega
          case rel => exact ⟨j + 1, by omega, by go_num, rfl, by rw [STK.out, bothStep, HX7.out]; exact hown8, hk8⟩
        · have HY : Hid (greatStep X7 (s1, s2) = X7) := by show _ = _; simp [greatStep, hgr]
          go_wp2_with fail
          go_roundg (l.length - (j + 1))
          case measure => omega
          case rel => exact ⟨j + 1, by omega, by go_num, rfl, by rw [STK.out, bothStep, HX7.out, HY.out]; exact hown7.alloc _, (hk7).alloc _⟩
      · have HX : Hid (smallStep X (s1, s2) = X) := by show _ = _; simp [smallStep, hsm]
        have hown7 := (hown.alloc (.cells #[.int .i32 s1, .int .i32 s2] 149)).alloc (.cells #[.int .i32 (max s1 97), .int .i32 (min s2 122)] 149)
        have hk7 := (hk.alloc (.cells #[.int .i32 s1, .int .i32 s2] 149)).alloc (.cells #[.int .i32 (max s1 97), .int .i32 (min s2 122)] 149)
        by_cases hgr : max s1 65 ≤ min s2 90
        · have HY : Hid (greatStep X (s1, s2) = X ++ [(max s1 65 + 32, min s2 90 + 32)]) := by show _ = _; simp [greatStep, hgr]
          go_wp2_with (at_builtin; refine wpList_append_own_at _ rfl _ _ 52 rfl w.heap.size 149 i0 _ 2 8 Tryz.underlying52 hi0 hz0 hz1 hz2 rfl (by decide) _ X.length _ rfl ((hown7.alloc (.cells #[.int .i32 (max s1 65), .int .i32 (min s2 90)] 149)).alloc (.cells #[.int .i32 (max s1 65 + 32), .int .i32 (min s2 90 + 32)] 149)) ⟨wr.heap.size + 1 + 1 + 1, 0, none⟩ 1 1 [.int .i32 (max s1 65 + 32), .int .i32 (min s2 90 + 32)] rfl rfl ?c1 ?c2 ?c3 ?c4 ?c5 ?_)
          try (case c1 => intro j' u h; have := new32 (((wr.alloc (.cells #[.int .i32 s1, .int .i32 s2] 149)).alloc (.cells #[.int .i32 (max s1 97), .int .i32 (min s2 122)] 149)).alloc (.cells #[.int .i32 (max s1 65), .int .i32 (min s2 90)] 149)) #[.int .i32 (max s1 65 + 32), .int .i32 (min s2 90 + 32)] 149 j' u h; simpa using this)
          case c2 => first | exact ⟨rfl, rfl⟩ | (intro u hu; simp at hu; rcases hu with rfl | rfl <;> rfl)
          case c3 => unfold maxLen; omega
          case c4 => omega
          case c5 => first | omega | (simp; omega)
          intro v8 w8 hown' hgrow hnil hloc
          have hk8 := kept_own2 (hown7) (Nat.le_refl _) (hk7) (((Kept.refl Nil _).alloc (.cells #[.int .i32 (max s1 65), .int .i32 (min s2 90)] 149)).alloc _) hgrow
          have hown8 := own32_snoc (x := (max s1 65 + 32, min s2 90 + 32)) hown'
          rw [← HY.out] at hown8
          clear hown' hgrow hloc hnil
          go_wp2_with fail
          go_roundg (l.length - (j + 1))
          case measure => omega
          case rel => exact ⟨j + 1, by omega, by go_num, rfl, by rw [STK.out, bothStep, HX.out]; exact hown8, hk8⟩
        · have HY : Hid (greatStep X (s1, s2) = X) := by show _ = _; simp [greatStep, hgr]
          go_wp2_with fail
          go_roundg (l.length - (j + 1))
          case measure => omega
          case rel => exact ⟨j + 1, by omega, by go_num, rfl, by rw [STK.out, bothStep, HX.out, HY.out]; exact hown7.alloc _, (hk7).alloc _⟩
    · have ej : j = l.length := by omega
      subst ej
      rw [List.take_length] at *
      clear hc hr
      go_wp2_with fail
      go_ret
      exact ⟨_, rfl, hown, hk⟩
end Go.Proofs.YtnbfddjaonlmaaaGreatDoor
