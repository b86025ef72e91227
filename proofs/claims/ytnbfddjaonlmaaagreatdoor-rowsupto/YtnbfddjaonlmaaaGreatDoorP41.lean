/- Package trawlkeep's same: the same events?. Rows of letters: what a class with + or {n,} tells of a text of single bytes. A text of single bytes: its runes are its bytes. -/
import Derived.Test.YtnbfddjaonlmaaaGreatDoorP40
set_option linter.unusedVariables false
set_option maxRecDepth 100000
namespace Go.Proofs.YtnbfddjaonlmaaaGreatDoor
open Go.RowKit Go.Maps

/-- a row of numbers: none, or a block of its own -/
def IntsV (w : World) (v : Value) (xs : List Int) : Prop := (v = .slice none 0 0 ∧ xs = []) ∨ ∃ g c, v = .slice (some ⟨g, 0, none⟩) xs.length c ∧ Blk w g (intL xs).toArray 3
theorem IntsV.kept {w w' : World} {v : Value} {xs : List Int} (h : IntsV w v xs) (k : Kept Nil w w') : IntsV w' v xs := by
  rcases h with h | ⟨g, c, h1, h2⟩
  · exact Or.inl h
  · exact Or.inr ⟨g, c, h1, h2.kept k (fun h => h)⟩
set_option maxHeartbeats 2000000 in
theorem sameInts_dr {w : World} {ga gb ca cb n : Nat} {xs ys : List Int} (ha : Blk w ga (intL xs).toArray 3) (hb : Blk w gb (intL ys).toArray 3) (hx : xs.length = n) (hy : ys.length = n) (hn : n ≤ 1000000) :
    Calls Tryz.prog 17 #[.slice (some ⟨ga, 0, none⟩) n ca, .slice (some ⟨gb, 0, none⟩) n cb] w fun e w' => e = .returned (.bool (decide (xs = ys))) ∧ ∃ m, w' = w.drewN m := by
  have HA := hid ha
  have HB := hid hb
  have HX := hid hx
  have HY := hid hy
  clear ha hb hx hy
  go_enter Tryz.func17, Tryz.ntmps17
  go_wp2_with fail
  go_loopg [5] n (fun kk i wr => ∃ j : Nat, i = .int .i64 j ∧ j ≤ n ∧ kk = n - j ∧ Hid (xs.take j = ys.take j) ∧ ∃ m, wr = w.drewN m)
  case atStart => exact ⟨0, rfl, Nat.zero_le _, rfl, rfl, 0, rfl⟩
  case round =>
    obtain ⟨j, rfl, hj, rfl, HT, m, rfl⟩ := hrel
    by_cases hlt : j < n
    · have d1 : w.cell? ⟨ga, j, none⟩ = some (.int .i64 (xs.getD j 0)) := ints_cell HA.out j (by rw [HX.out]; exact hlt)
      have d2 : w.cell? ⟨gb, j, none⟩ = some (.int .i64 (ys.getD j 0)) := ints_cell HB.out j (by rw [HY.out]; exact hlt)
      obtain ⟨x, HXx⟩ : ∃ x, Hid (xs.getD j 0 = x) := ⟨_, (rfl : _ = _)⟩
      obtain ⟨y, HYy⟩ : ∃ y, Hid (ys.getD j 0 = y) := ⟨_, (rfl : _ = _)⟩
      rw [HXx.out] at d1
      rw [HYy.out] at d2
      by_cases e : x = y
      · subst e
        go_wp2_with fail
        go_big_quiet (fail)
        go_wp2_with fail
        go_roundg (n - (j + 1))
        case measure => omega
        case rel => exact ⟨j + 1, by simp, by omega, rfl, take_succ_eq HT.out (by rw [HX.out]; exact hlt) (by rw [HY.out]; exact hlt) (HXx.out.trans HYy.out.symm), m + nq, by first | rfl | rw [World.drewN_drewN]⟩
      · have hne : (x != y) = true := by simpa using e
        have HE := hid e
        clear e
        go_wp2_with fail
        go_big_quiet (fail)
        go_wp2_with fail
        go_ret
        exact ⟨by rw [decide_eq_false]; (try rfl); rintro rfl; exact HE.out (HXx.out.symm.trans HYy.out), m + nq, by first | rfl | rw [World.drewN_drewN]⟩
    · have hjn : j = n := by omega
      subst hjn
      go_wp2_with fail
      go_ret
      have h1 := HT.out
      rw [List.take_of_length_le (by rw [HX.out]; exact Nat.le_refl _), List.take_of_length_le (by rw [HY.out]; exact Nat.le_refl _)] at h1
      exact ⟨by rw [decide_eq_true h1] <;> rfl, m, rfl⟩
theorem sameInts_ne (oa ob : Option Addr) (n m ca cb : Nat) (w : World) (h : n ≠ m) (hn : n ≤ 1000000) (hm : m ≤ 1000000) : Calls Tryz.prog 17 #[.slice oa n ca, .slice ob m cb] w fun e w' => e = .returned (.bool false) ∧ w' = w := by
  have hb : ((n : Int) != (m : Int)) = true := by simp; omega
  go_enter Tryz.func17, Tryz.ntmps17
  go_wp2_with fail
  go_ret
  exact ⟨rfl, rfl⟩
theorem sameInts_zero (oa ob : Option Addr) (ca cb : Nat) (w : World) : Calls Tryz.prog 17 #[.slice oa 0 ca, .slice ob 0 cb] w fun e w' => e = .returned (.bool true) ∧ w' = w := by
  go_enter Tryz.func17, Tryz.ntmps17
  go_wp2_with fail
  go_loopg [5] 0 (fun kk i wr => kk = 0 ∧ i = .int .i64 0 ∧ wr = w)
  case atStart => exact ⟨rfl, rfl, rfl⟩
  case round =>
    obtain ⟨rfl, rfl, rfl⟩ := hrel
    go_wp2_with fail
    go_ret
    exact ⟨rfl, rfl⟩
theorem sameInts_gen {w : World} {va vb : Value} {xs ys : List Int} (ha : IntsV w va xs) (hb : IntsV w vb ys) (hn : xs.length ≤ 1000000) (hm : ys.length ≤ 1000000) : Calls Tryz.prog 17 #[va, vb] w fun e w' => e = .returned (.bool (decide (xs = ys))) ∧ ∃ m, w' = w.drewN m := by
  have key : ∀ (oa ob : Option Addr) (ca cb : Nat), va = .slice oa xs.length ca → vb = .slice ob ys.length cb → xs.length ≠ ys.length ∨ (xs = [] ∧ ys = []) → Calls Tryz.prog 17 #[va, vb] w fun e w' => e = .returned (.bool (decide (xs = ys))) ∧ ∃ m, w' = w.drewN m := by
    rintro oa ob ca cb rfl rfl (h | ⟨rfl, rfl⟩)
    · refine (sameInts_ne oa ob _ _ ca cb w h hn hm).mono ?_
      rintro e w' ⟨rfl, rfl⟩
      exact ⟨by rw [decide_eq_false (fun e => h (congrArg List.length e))], 0, rfl⟩
    · refine (sameInts_zero oa ob ca cb w).mono ?_
      rintro e w' ⟨rfl, rfl⟩
      exact ⟨rfl, 0, rfl⟩
  rcases ha with ⟨rfl, rfl⟩ | ⟨g, c, rfl, h2⟩ <;> rcases hb with ⟨rfl, rfl⟩ | ⟨g', c', rfl, h4⟩
  · exact key none none 0 0 rfl rfl (Or.inr ⟨rfl, rfl⟩)
  · by_cases h : ys = []
    · exact key none (some ⟨g', 0, none⟩) 0 c' rfl rfl (Or.inr ⟨rfl, h⟩)
    · exact key none (some ⟨g', 0, none⟩) 0 c' rfl rfl (Or.inl (fun e => h (List.length_eq_zero_iff.1 e.symm)))
  · by_cases h : xs = []
    · exact key (some ⟨g, 0, none⟩) none c 0 rfl rfl (Or.inr ⟨h, rfl⟩)
    · exact key (some ⟨g, 0, none⟩) none c 0 rfl rfl (Or.inl (fun e => h (List.length_eq_zero_iff.1 e)))
  · by_cases h : xs.length = ys.length
    · have F := sameInts_dr (ca := c) (cb := c') (n := xs.length) h2 h4 rfl h.symm hn
      rw [← h]
      exact F
    · exact key (some ⟨g, 0, none⟩) (some ⟨g', 0, none⟩) c c' rfl rfl (Or.inl h)

/-- n events in memory: where each begins and ends, its groups, its bytes -/
structure EvW (w : World) (v : Value) (n : Nat) (A B : Nat → Int) (GV : Nat → Value) (GS : Nat → List Int) (TX : Nat → ByteArray) : Prop where
  val : (n = 0 ∧ ∃ o c, v = .slice o 0 c) ∨ ∃ g c, v = .slice (some ⟨g, 0, none⟩) n c ∧ g < w.heap.size ∧
    (∀ k, k < n → w.cell? ⟨g, k * 4, none⟩ = some (.int .i64 (A k)) ∧ w.cell? ⟨g, k * 4 + 1, none⟩ = some (.int .i64 (B k)) ∧ w.cell? ⟨g, k * 4 + 2, none⟩ = some (GV k) ∧ w.cell? ⟨g, k * 4 + 3, none⟩ = some (.string (TX k)))
  gv : ∀ k, k < n → IntsV w (GV k) (GS k) ∧ (GS k).length ≤ 1000000
theorem EvW.kept {w w' : World} {v : Value} {n : Nat} {A B : Nat → Int} {GV : Nat → Value} {GS : Nat → List Int} {TX : Nat → ByteArray} (h : EvW w v n A B GV GS TX) (k : Kept Nil w w') : EvW w' v n A B GV GS TX := by
  refine ⟨?_, fun i hi => ⟨(h.gv i hi).1.kept k, (h.gv i hi).2⟩⟩
  rcases h.val with h | ⟨g, c, h1, h2, h3⟩
  · exact Or.inl h
  · have kc : ∀ i, w'.cell? ⟨g, i, none⟩ = w.cell? ⟨g, i, none⟩ := fun i => k.cell (p := ⟨g, i, none⟩) h2 (fun h => h)
    exact Or.inr ⟨g, c, h1, Nat.lt_of_lt_of_le h2 k.size, fun i hi => ⟨(kc _).trans (h3 i hi).1, (kc _).trans (h3 i hi).2.1, (kc _).trans (h3 i hi).2.2.1, (kc _).trans (h3 i hi).2.2.2⟩⟩
set_option maxHeartbeats 8000000 in
theorem same_rd {w : World} {va vb : Value} {n : Nat} {A B : Nat → Int} {GV GV' : Nat → Value} {GS GS' : Nat → List Int} {TX : Nat → ByteArray} (gr : Bool) (ha : EvW w va n A B GV GS TX) (hb : EvW w vb n A B GV' GS' TX) (hn : n ≤ 100000000) (hg : gr = true → ∀ k, k < n → GS k = GS' k) :
    Calls Tryz.prog 12 #[va, vb, .bool gr] w fun e w' => e = .returned (.bool true) ∧ Kept Nil w w' := by
  have H1 := hid ha
  have H2 := hid hb
  have HG := hid hg
  by_cases h0 : n = 0
  · subst h0
    obtain ⟨oa, ca, rfl⟩ : ∃ o c, va = .slice o 0 c := by
      rcases ha.val with ⟨_, h⟩ | ⟨g, c, h, _⟩
      · exact h
      · exact ⟨_, _, h⟩
    obtain ⟨ob, cb, rfl⟩ : ∃ o c, vb = .slice o 0 c := by
      rcases hb.val with ⟨_, h⟩ | ⟨g, c, h, _⟩
      · exact h
      · exact ⟨_, _, h⟩
    clear ha hb hg H1 H2 HG hn
    go_enter Tryz.func12, Tryz.ntmps12
    go_wp2_with fail
    go_loopg [7] 0 (fun kk i wr => kk = 0 ∧ i = .int .i64 0 ∧ wr = w)
    case atStart => exact ⟨rfl, rfl, rfl⟩
    case round =>
      obtain ⟨rfl, rfl, rfl⟩ := hrel
      go_wp2_with fail
      go_ret
      exact ⟨rfl, Kept.refl _ _⟩
  · obtain ⟨g, c, rfl, hlt, _⟩ := ha.val.resolve_left (fun h => h0 h.1)
    obtain ⟨g', c', rfl, hlt', _⟩ := hb.val.resolve_left (fun h => h0 h.1)
    clear ha hb hg hlt hlt'
    go_enter Tryz.func12, Tryz.ntmps12
    go_wp2_with fail
    go_loopg [7] n (fun kk i wr => ∃ j : Nat, i = .int .i64 j ∧ j ≤ n ∧ kk = n - j ∧ Hid (Kept Nil w wr))
    case atStart => exact ⟨0, rfl, Nat.zero_le _, rfl, Kept.refl _ _⟩
    case round =>
      obtain ⟨j, rfl, hj, rfl, K⟩ := hrel
      by_cases hjn : j < n
      · have E1 := H1.out.kept K.out
        have E2 := H2.out.kept K.out
        obtain ⟨g1, c1, e1, _, f1⟩ := E1.val.resolve_left (fun h => h0 h.1)
        obtain ⟨g2, c2, e2, _, f2⟩ := E2.val.resolve_left (fun h => h0 h.1)
        simp only [Value.slice.injEq, Option.some.injEq, Addr.mk.injEq, true_and, and_true] at e1 e2
        obtain ⟨rfl, rfl⟩ := e1
        obtain ⟨rfl, rfl⟩ := e2
        obtain ⟨a0, a1, a2, a3⟩ := f1 j hjn
        obtain ⟨b0, b1, b2, b3⟩ := f2 j hjn
        have G1 := hid (E1.gv j hjn)
        have G2 := hid (E2.gv j hjn)
        have HGj : Hid (gr = true → GS j = GS' j) := fun h => HG.out h j hjn
        clear f1 f2 E1 E2
        generalize A j = xa at *
        generalize B j = xb at *
        generalize GV j = gv at *
        generalize GV' j = gv' at *
        generalize GS j = gs at *
        generalize GS' j = gs' at *
        generalize TX j = tx at *
        go_wp2_with fail
        go_big_quiet (fail)
        clear a0 a1 a3 b0 b1 b3
        replace a2 : (wr.drewN nq).cell? ⟨g, j * 4 + 2, none⟩ = some gv := a2
        replace b2 : (wr.drewN nq).cell? ⟨g', j * 4 + 2, none⟩ = some gv' := b2
        have K1 : Hid (Kept Nil w (wr.drewN nq)) := K.out.drewN nq
        have F : Hid (∀ n, Calls Tryz.prog 17 #[gv, gv'] ((wr.drewN nq).drewN n) fun e w' => e = .returned (.bool (decide (gs = gs'))) ∧ ∃ m, w' = (wr.drewN nq).drewN m) := fun n => by
          have kk : Kept Nil wr ((wr.drewN nq).drewN n) := ((Kept.refl Nil wr).drewN nq).drewN n
          refine (sameInts_gen (G1.out.1.kept kk) (G2.out.1.kept kk) G1.out.2 G2.out.2).mono ?_
          rintro e w' ⟨rfl, m, rfl⟩
          exact ⟨rfl, n + m, by rw [World.drewN_drewN]⟩
        clear G1 G2
        obtain ⟨eq, HEQ⟩ : ∃ eq, Hid (decide (gs = gs') = eq) := ⟨_, (rfl : _ = _)⟩
        rw [HEQ.out] at F
        clear K
        generalize wr.drewN nq = wr2 at *
        clear nq
        go_wp2_with fail
        go_big_quiet (first | (go_at_call 17; exact F.out _))
        have hcase : gr = false ∨ eq = true := by
          cases gr
          · exact Or.inl rfl
          · right
            rw [← HEQ.out]
            exact decide_eq_true (HGj.out rfl)
        rcases hcase with rfl | rfl
        · go_wp2_with fail
          go_roundg (n - (j + 1))
          case measure => omega
          case rel => exact ⟨j + 1, by go_num, by omega, rfl, K1.out.drewN _⟩
        · cases gr
          all_goals
            go_wp2_with fail
            go_roundg (n - (j + 1))
            case measure => omega
            case rel => exact ⟨j + 1, by go_num, by omega, rfl, K1.out.drewN _⟩
      · go_wp2_with fail
        go_ret
        exact ⟨rfl, K.out⟩
end Go.Proofs.YtnbfddjaonlmaaaGreatDoor
namespace Go.Proofs.YtnbfddjaonlmaaaGreatDoor

def isAB (b : UInt8) : Bool := b == 97 || b == 98
def rowP (s : ByteArray) (i : Nat) : Bool := ((s.data.toList[i]?).map isAB).getD false
def rowLen (s : ByteArray) (i : Nat) : Nat := ((s.data.toList.drop i).takeWhile isAB).length
theorem rowLen_yes {s : ByteArray} {i : Nat} (h : rowP s i = true) : rowLen s i = rowLen s (i + 1) + 1 := by
  unfold rowP at h
  cases e : s.data.toList[i]? with
  | none => rw [e] at h; cases h
  | some b =>
    rw [e] at h
    obtain ⟨hlt, hb⟩ := List.getElem?_eq_some_iff.1 e
    unfold rowLen
    rw [List.drop_eq_getElem_cons hlt, hb, List.takeWhile_cons, if_pos (by simpa using h)]
    rfl
theorem rowLen_no {s : ByteArray} {i : Nat} (h : rowP s i = false) : rowLen s i = 0 := by
  unfold rowP at h
  unfold rowLen
  cases e : s.data.toList[i]? with
  | none => rw [List.drop_eq_nil_of_le (List.getElem?_eq_none_iff.1 e)]; rfl
  | some b =>
    rw [e] at h
    obtain ⟨hlt, hb⟩ := List.getElem?_eq_some_iff.1 e
    have h' : isAB b = false := by simpa using h
    rw [List.drop_eq_getElem_cons hlt, hb, List.takeWhile_cons, if_neg (by rw [h']; simp)]
    rfl
theorem rowP_lt {s : ByteArray} {i : Nat} (h : rowP s i = true) : i < s.size := by
  unfold rowP at h
  cases e : s.data.toList[i]? with
  | none => rw [e] at h; cases h
  | some b =>
    have := (List.getElem?_eq_some_iff.1 e).1
    simpa using this
theorem rowLen_le (s : ByteArray) (i : Nat) : i ≤ s.size → i + rowLen s i ≤ s.size := fun h => by
  unfold rowLen
  have h1 := (List.takeWhile_sublist isAB (l := s.data.toList.drop i)).length_le
  rw [List.length_drop] at h1
  have h2 : s.data.toList.length = s.size := by simp
  omega
theorem rowLen_at (s : ByteArray) (i : Nat) : ∀ k, k ≤ rowLen s i → rowLen s (i + k) = rowLen s i - k ∧ (k < rowLen s i → rowP s (i + k) = true) := by
  intro k
  induction k with
  | zero =>
    intro _
    refine ⟨rfl, fun h => ?_⟩
    cases e : rowP s (i + 0) with
    | true => rfl
    | false => rw [Nat.add_zero] at e; rw [rowLen_no e] at h; omega
  | succ k ih =>
    intro hk
    obtain ⟨h1, h2⟩ := ih (by omega)
    have h3 := rowLen_yes (h2 (by omega))
    rw [Nat.add_assoc] at h3
    refine ⟨by omega, fun h => ?_⟩
    cases e : rowP s (i + (k + 1)) with
    | true => rfl
    | false => have := rowLen_no e; omega
theorem rowP_end (s : ByteArray) (i : Nat) : rowP s (i + rowLen s i) = false := by
  cases e : rowP s (i + rowLen s i) with
  | false => rfl
  | true =>
    have h1 := (rowLen_at s i _ (Nat.le_refl _)).1
    have h2 := rowLen_yes e
    omega

/-! ## a leaf, as often as may be -/
def leafF (x : TX) (sp : Spans) (fo nt : Bool) : Cont × Cont → Cont × Cont := fun nx => (takeC x sp fo nt nx.2, takeC x sp fo nt nx.2)
def starC (sp : Spans) (fo nt : Bool) (lo : Int) : CT := .node 4 [] false false 0 0 0 0 false [.node 3 [] false false 0 0 0 0 false [.node 5 [] false false 0 0 lo (-1) false [cLeaf sp fo nt]]]
theorem sem_star (x : TX) (sp : Spans) (fo nt : Bool) (lo : Int) (nx : Cont × Cont) : semC x (starC sp fo nt lo) nx = timesP x (leafF x sp fo nt) lo (-1) false nx := by
  have h1 : semOne x [cLeaf sp fo nt] = leafF x sp fo nt := by
    funext nx
    simp [semOne, cLeaf, semC, leafF]
  unfold starC
  simp [semC, semAlt, semSeq, h1]
variable {x : TX} {s : ByteArray} {sp : Spans} {fo nt : Bool}
theorem take_row (hP : ∀ i, (decide (i < x.l.length) && takesC sp fo nt (x.rune i)) = rowP s i) (k : Cont) (i : Nat) (gs : List Int) : takeC x sp fo nt k i gs = if rowP s i = true then k (i + 1) gs else none := by
  unfold takeC
  rw [hP i]
theorem again_row (hP : ∀ i, (decide (i < x.l.length) && takesC sp fo nt (x.rune i)) = rowP s i) : ∀ m i gs, rowLen s i < m → againC (leafF x sp fo nt) false doneC m i gs = some (i + rowLen s i, gs)
  | 0, i, gs, h => by omega
  | m + 1, i, gs, h => by
    show forkC (takeC x sp fo nt (againC (leafF x sp fo nt) false doneC m)) doneC i gs = _
    unfold forkC
    rw [take_row hP]
    cases e : rowP s i with
    | true =>
      have h1 := rowLen_yes e
      simp only [if_true]
      rw [again_row hP m (i + 1) gs (by omega)]
      simp only
      rw [h1]
      congr 2
      omega
    | false =>
      have h1 := rowLen_no e
      simp [doneC, h1]
theorem loop_row (hP : ∀ i, (decide (i < x.l.length) && takesC sp fo nt (x.rune i)) = rowP s i) (hn : s.size = x.l.length) (i : Nat) (gs : List Int) (hi : i ≤ s.size) : (loopP x (leafF x sp fo nt) false (doneC, doneC)).2 i gs = some (i + rowLen s i, gs) := by
  show forkC (takeC x sp fo nt (againC (leafF x sp fo nt) false doneC (x.l.length + 1))) doneC i gs = _
  have := again_row hP (x.l.length + 1 + 1) i gs (by have := rowLen_le s i hi; omega)
  exact this
theorem iter_row (hP : ∀ i, (decide (i < x.l.length) && takesC sp fo nt (x.rune i)) = rowP s i) (nx : Cont × Cont) : ∀ k i gs, (iterP (leafF x sp fo nt) k nx).2 i gs = if k ≤ rowLen s i then nx.2 (i + k) gs else none
  | 0, i, gs => by simp [iterP]
  | k + 1, i, gs => by
    show takeC x sp fo nt (iterP (leafF x sp fo nt) k nx).2 i gs = _
    rw [take_row hP]
    cases e : rowP s i with
    | true =>
      have h1 := rowLen_yes e
      simp only [if_true]
      rw [iter_row hP nx k (i + 1) gs, h1]
      by_cases h : k ≤ rowLen s (i + 1)
      · rw [if_pos h, if_pos (by omega), show i + 1 + k = i + (k + 1) by omega]
      · rw [if_neg h, if_neg (by omega)]
    | false =>
      have h1 := rowLen_no e
      simp [h1]
/-- the first try of a class, lo times or more -/
theorem try_row (hP : ∀ i, (decide (i < x.l.length) && takesC sp fo nt (x.rune i)) = rowP s i) (hn : s.size = x.l.length) (lo : Nat) (i : Nat) (hi : i ≤ s.size) : tryAt (starC sp fo nt lo) 0 x i = if lo ≤ rowLen s i then some (i + rowLen s i, []) else none := by
  unfold tryAt
  rw [sem_star]
  unfold timesP
  simp only [if_true, Int.toNat_natCast]
  rw [iter_row hP]
  by_cases h : lo ≤ rowLen s i
  · rw [if_pos h, if_pos h, loop_row hP hn _ _ (by have := rowLen_le s i hi; omega), (rowLen_at s i lo h).1]
    congr 2
    omega
  · rw [if_neg h, if_neg h]

/-! ## the rows of a text -/
def rowsK (s : ByteArray) (least : Nat) : Nat → Nat → List (Nat × Nat)
  | 0, _ => []
  | f + 1, i => if s.size ≤ i then [] else (if least ≤ rowLen s i ∧ 0 < rowLen s i then [(i, i + rowLen s i)] else []) ++ rowsK s least f (if rowLen s i = 0 then i + 1 else i + rowLen s i)
def rowsF (s : ByteArray) (least i : Nat) : List (Nat × Nat) := rowsK s least (s.size - i) i
theorem rowsK_more (s : ByteArray) (least : Nat) : ∀ f g i, s.size - i ≤ f → f ≤ g → rowsK s least g i = rowsK s least f i
  | 0, 0, i, _, _ => rfl
  | 0, g + 1, i, h, _ => by
    show (if s.size ≤ i then [] else _) = _
    rw [if_pos (by omega)]
    rfl
  | f + 1, 0, i, _, h => by omega
  | f + 1, g + 1, i, h, hg => by
    show (if s.size ≤ i then [] else _ ++ rowsK s least g _) = (if s.size ≤ i then [] else _ ++ rowsK s least f _)
    by_cases hi : s.size ≤ i
    · rw [if_pos hi, if_pos hi]
    · rw [if_neg hi, if_neg hi, rowsK_more s least f g _ (by split <;> omega) (by omega)]
theorem rowsF_step {s : ByteArray} {least i : Nat} (hi : i < s.size) : rowsF s least i = (if least ≤ rowLen s i ∧ 0 < rowLen s i then [(i, i + rowLen s i)] else []) ++ rowsF s least (if rowLen s i = 0 then i + 1 else i + rowLen s i) := by
  unfold rowsF
  obtain ⟨f, hf⟩ : ∃ f, s.size - i = f + 1 := ⟨s.size - i - 1, by omega⟩
  rw [hf]
  show (if s.size ≤ i then [] else _ ++ rowsK s least f _) = _
  rw [if_neg (by omega)]
  rw [rowsK_more s least _ f _ (Nat.le_refl _) (by split <;> omega)]
theorem rowsF_end {s : ByteArray} {least i : Nat} (hi : s.size ≤ i) : rowsF s least i = [] := by
  unfold rowsF
  rw [show s.size - i = 0 by omega]
  rfl
/-- tries that tell rows tell the rows -/
theorem evs_rows {T : Nat → Got} {s : ByteArray} {lo : Nat} (hlo : 1 ≤ lo) (hT : ∀ i, i ≤ s.size → T i = if lo ≤ rowLen s i then some (i + rowLen s i, []) else none) (hg : GoesOn T s.size) :
    ∀ (d i : Nat) (told : Option Nat), s.size - i = d → i ≤ s.size → (evsFrom T s.size i told) = (rowsF s lo i).map fun p => (⟨p.1, p.2, []⟩ : Ev) := by
  have skip : ∀ k i told, k ≤ rowLen s i → rowLen s i < lo → i ≤ s.size → evsFrom T s.size i told = evsFrom T s.size (i + k) told := by
    intro k
    induction k with
    | zero => intro i told _ _ _; rfl
    | succ k ih =>
      intro i told h1 h2 h3
      have h4 := (rowLen_at s i k (by omega)).1
      have h5 := rowLen_le s i h3
      rw [ih i told (by omega) h2 h3, evsFrom_none (by omega) (by rw [hT _ (by omega), if_neg (by omega)])]
      rfl
  intro d
  induction d using Nat.strongRecOn with
  | ind d ih =>
    intro i told hd hi
    have hle := rowLen_le s i hi
    by_cases h : lo ≤ rowLen s i
    · have e := hT i hi
      rw [if_pos h] at e
      rw [evsFrom_some hg hi e, if_neg (by omega), ih (s.size - (i + rowLen s i)) (by omega) _ _ rfl (by omega), rowsF_step (i := i) (by omega), if_pos ⟨h, by omega⟩, if_neg (by omega)]
      rfl
    · by_cases h0 : i = s.size
      · have e := hT i hi
        rw [if_neg h] at e
        rw [evsFrom_none hi e, evsFrom_end (by omega), rowsF_end (by omega)]
        rfl
      · rw [rowsF_step (i := i) (by omega), if_neg (by omega), List.nil_append]
        by_cases hz : rowLen s i = 0
        · rw [if_pos hz, evsFrom_none hi (by rw [hT i hi, if_neg h]), ih (s.size - (i + 1)) (by omega) _ _ rfl (by omega)]
        · rw [if_neg hz, skip (rowLen s i) i told (Nat.le_refl _) (by omega) hi, ih (s.size - (i + rowLen s i)) (by omega) _ _ rfl (by omega)]

def Asc (s : ByteArray) : Prop := ∀ b ∈ s.data.toList, b.toNat < 128
theorem Asc.get {s : ByteArray} (h : Asc s) {p : Nat} (hp : p < s.size) : (s.get! p).toNat < 128 := by
  have e : s.get! p = s.data[p]'hp := by
    show s.data[p]! = _
    exact getElem!_pos s.data p hp
  rw [e]
  exact h _ (by rw [← Array.getElem_toList]; exact List.getElem_mem _)
theorem Asc.decode {s : ByteArray} (h : Asc s) {p : Nat} (hp : p < s.size) : Utf8.decode s p = ((s.get! p).toNat, 1) := (decode_wide s p hp).2.2.2.2.1 (h.get hp)
theorem Asc.bd_eq {s : ByteArray} (h : Asc s) : ∀ i, i ≤ (runesOf s).length → bd s i = i
  | 0, _ => bd_zero s
  | i + 1, hi => by
    have e := h.bd_eq i (by omega)
    rw [bd_next (by omega), h.decode (bd_size (by omega)), e]
theorem Asc.len {s : ByteArray} (h : Asc s) : (runesOf s).length = s.size := by
  have h1 := h.bd_eq _ (Nat.le_refl _)
  rw [bd_end (Nat.le_refl _)] at h1
  exact h1.symm
theorem Asc.bd {s : ByteArray} (h : Asc s) {i : Nat} (hi : i ≤ s.size) : bd s i = i := h.bd_eq i (by rw [h.len]; exact hi)
theorem Asc.rune {s : ByteArray} (h : Asc s) {i : Nat} (hi : i < s.size) : (txOf s).rune i = ((s.get! i).toNat : Int) := by
  rw [rune_bd (by rw [h.len]; exact hi), h.bd (by omega), h.decode hi]
/-! ## the patterns of Rows -/
def Abcd (s : ByteArray) : Prop := ∀ b ∈ s.data.toList, b ∈ [97, 98, 99, 100]
theorem Abcd.asc {s : ByteArray} (h : Abcd s) : Asc s := fun b hb => by
  have := h b hb
  simp at this
  rcases this with rfl | rfl | rfl | rfl <;> decide
theorem Abcd.row {s : ByteArray} (h : Abcd s) {sp : Spans} {nt : Bool} (hsp : ∀ b : UInt8, b ∈ [97, 98, 99, 100] → takesC sp false nt (b.toNat : Int) = isAB b) (i : Nat) : (decide (i < (txOf s).l.length) && takesC sp false nt ((txOf s).rune i)) = rowP s i := by
  have hl : (txOf s).l.length = s.size := h.asc.len
  unfold rowP
  by_cases hi : i < s.size
  · have hi' : i < s.data.toList.length := by simpa using hi
    rw [hl, decide_eq_true hi, Bool.true_and, h.asc.rune hi, List.getElem?_eq_getElem hi']
    have e : s.get! i = s.data.toList[i] := by
      show s.data[i]! = _
      rw [getElem!_pos s.data i hi, Array.getElem_toList]
    rw [e, hsp _ (h _ (List.getElem_mem _))]
    rfl
  · rw [hl, decide_eq_false hi, Bool.false_and, List.getElem?_eq_none (by simp; omega)]
    rfl
def rwP : ByteArray := ⟨#[91, 97, 45, 98, 93, 43]⟩
def rwQ (k : Nat) : ByteArray := ⟨#[91, 94, 99, 100, 93, 123, (48 + k).toUInt8, 44, 125]⟩
theorem rwP_e : patE rwP = 0 ∧ patG rwP = 0 ∧ patC rwP = starC [(97, 98)] false false 1 := by refine ⟨?_, ?_, ?_⟩ <;> kernel_rfl
theorem rwQ_e (k : Nat) (h1 : 1 ≤ k) (h5 : k ≤ 5) : patE (rwQ k) = 0 ∧ patG (rwQ k) = 0 ∧ patC (rwQ k) = starC [(99, 99), (100, 100)] false true k := by
  have : k = 1 ∨ k = 2 ∨ k = 3 ∨ k = 4 ∨ k = 5 := by omega
  rcases this with rfl | rfl | rfl | rfl | rfl
  all_goals refine ⟨?_, ?_, ?_⟩ <;> kernel_rfl
theorem find_row {p s : ByteArray} (h : Abcd s) {sp : Spans} {nt : Bool} (hsp : ∀ b : UInt8, b ∈ [97, 98, 99, 100] → takesC sp false nt (b.toNat : Int) = isAB b) {k : Nat} (hk : 1 ≤ k) (hC : patC p = starC sp false nt k) (hG : patG p = 0) (hok : (patC p).gok (patG p)) : findE p s = (rowsF s k 0).map fun q => (⟨q.1, q.2, []⟩ : Ev) := by
  unfold findE
  have hg := tryAt_fwd hok s
  rw [hC, hG] at hg ⊢
  have hl := h.asc.len
  have hT : ∀ i, i ≤ s.size → tryAt (starC sp false nt k) 0 (txOf s) i = if k ≤ rowLen s i then some (i + rowLen s i, []) else none := fun i hi => try_row (h.row hsp) hl.symm k i hi
  rw [hl] at hg ⊢
  exact evs_rows hk hT hg _ 0 none rfl (Nat.zero_le _)
theorem find_rowP {s : ByteArray} (h : Abcd s) : findE rwP s = (rowsF s 1 0).map fun q => (⟨q.1, q.2, []⟩ : Ev) := by
  obtain ⟨h1, h2, h3⟩ := rwP_e
  exact find_row h (by decide) (Nat.le_refl _) h3 h2 (patC_ok (by decide) h1).2.2.1
theorem find_rowQ {s : ByteArray} (h : Abcd s) {k : Nat} (hk1 : 1 ≤ k) (hk5 : k ≤ 5) : findE (rwQ k) s = (rowsF s k 0).map fun q => (⟨q.1, q.2, []⟩ : Ev) := by
  obtain ⟨h1, h2, h3⟩ := rwQ_e k hk1 hk5
  exact find_row h (by decide) hk1 h3 h2 (patC_ok (by show (9 : Nat) ≤ 300; omega) h1).2.2.1
end Go.Proofs.YtnbfddjaonlmaaaGreatDoor
