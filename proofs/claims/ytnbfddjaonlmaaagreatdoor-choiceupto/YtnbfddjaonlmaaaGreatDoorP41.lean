/- Package trawlkeep's same: the same events?. Rows of letters: what a class with + or {n,} tells of a text of single bytes. A text of single bytes: its runes are its bytes. Package trawlkeep's runs: the rows of a text. Rows: of a class with + the rows of its letters, with {n,} those that are long enough. How the reader's mirror reads a pattern that is put together out of parts. Atoms, brackets, signs of times; a whole pattern of single bytes. -/
import Derived.Test.YtnbfddjaonlmaaaGreatDoorP40
set_option linter.unusedVariables false
set_option maxRecDepth 100000
namespace Go.Proofs.YtnbfddjaonlmaaaGreatDoor
open Go.RowKit Go.Maps

/-- a row of numbers: none, or a block of its own -/
def IntsV (w : World) (v : Value) (xs : List Int) : Prop := (v = .slice none 0 0 ∧ xs = []) ∨ ∃ g c, v = .slice (some ⟨g, 0, none⟩) xs.length c ∧ Blk w g (intL xs).toArray 3
theorem IntsV.kept {w w' : World} {v : Value} {xs : List Int} (h : IntsV w v xs) (k : Kept Nil w w') : IntsV w' v xs := by
  rcases h with h | ⟨g, c, h1, h2⟩
  · exact Or.inl h
  · exact Or.inr ⟨g, c, h1, h2.kept k (fun h => h)⟩
set_option maxHeartbeats 2000000 in
theorem sameInts_dr {w : World} {ga gb ca cb n : Nat} {xs ys : List Int} (ha : Blk w ga (intL xs).toArray 3) (hb : Blk w gb (intL ys).toArray 3) (hx : xs.length = n) (hy : ys.length = n) (hn : n ≤ 1000000) :
    Calls Tryz.prog 17 #[.slice (some ⟨ga, 0, none⟩) n ca, .slice (some ⟨gb, 0, none⟩) n cb] w fun e w' => e = .returned (.bool (decide (xs = ys))) ∧ ∃ m, w' = w.drewN m := by
  have HA := hid ha
  have HB := hid hb
  have HX := hid hx
  have HY := hid hy
  clear ha hb hx hy
  go_enter Tryz.func17, Tryz.ntmps17
  go_wp2_with fail
  go_loopg [5] n (fun kk i wr => ∃ j : Nat, i = .int .i64 j ∧ j ≤ n ∧ kk = n - j ∧ Hid (xs.take j = ys.take j) ∧ ∃ m, wr = w.drewN m)
  case atStart => exact ⟨0, rfl, Nat.zero_le _, rfl, rfl, 0, rfl⟩
  case round =>
    obtain ⟨j, rfl, hj, rfl, HT, m, rfl⟩ := hrel
    by_cases hlt : j < n
    · have d1 : w.cell? ⟨ga, j, none⟩ = some (.int .i64 (xs.getD j 0)) := ints_cell HA.out j (by rw [HX.out]; exact hlt)
      have d2 : w.cell? ⟨gb, j, none⟩ = some (.int .i64 (ys.getD j 0)) := ints_cell HB.out j (by rw [HY.out]; exact hlt)
      obtain ⟨x, HXx⟩ : ∃ x, Hid (xs.getD j 0 = x) := ⟨_, (rfl : _ = _)⟩
      obtain ⟨y, HYy⟩ : ∃ y, Hid (ys.getD j 0 = y) := ⟨_, (rfl : _ = _)⟩
      rw [HXx.out] at d1
      rw [HYy.out] at d2
      by_cases e : x = y
      · subst e
        go_wp2_with fail
        go_big_quiet (fail)
        go_wp2_with fail
        go_roundg (n - (j + 1))
        case measure => omega
        case rel => exact ⟨j + 1, by simp, by omega, rfl, take_succ_eq HT.out (by rw [HX.out]; exact hlt) (by rw [HY.out]; exact hlt) (HXx.out.trans HYy.out.symm), m + nq, by first | rfl | rw [World.drewN_drewN]⟩
      · have hne : (x != y) = true := by simpa using e
        have HE := hid e
        clear e
        go_wp2_with fail
        go_big_quiet (fail)
        go_wp2_with fail
        go_ret
        exact ⟨by rw [decide_eq_false]; (try rfl); rintro rfl; exact HE.out (HXx.out.symm.trans HYy.out), m + nq, by first | rfl | rw [World.drewN_drewN]⟩
    · have hjn : j = n := by omega
      subst hjn
      go_wp2_with fail
      go_ret
      have h1 := HT.out
      rw [List.take_of_length_le (by rw [HX.out]; exact Nat.le_refl _), List.take_of_length_le (by rw [HY.out]; exact Nat.le_refl _)] at h1
      exact ⟨by rw [decide_eq_true h1] <;> rfl, m, rfl⟩
theorem sameInts_ne (oa ob : Option Addr) (n m ca cb : Nat) (w : World) (h : n ≠ m) (hn : n ≤ 1000000) (hm : m ≤ 1000000) : Calls Tryz.prog 17 #[.slice oa n ca, .slice ob m cb] w fun e w' => e = .returned (.bool false) ∧ w' = w := by
  have hb : ((n : Int) != (m : Int)) = true := by simp; omega
  go_enter Tryz.func17, Tryz.ntmps17
  go_wp2_with fail
  go_ret
  exact ⟨rfl, rfl⟩
theorem sameInts_zero (oa ob : Option Addr) (ca cb : Nat) (w : World) : Calls Tryz.prog 17 #[.slice oa 0 ca, .slice ob 0 cb] w fun e w' => e = .returned (.bool true) ∧ w' = w := by
  go_enter Tryz.func17, Tryz.ntmps17
  go_wp2_with fail
  go_loopg [5] 0 (fun kk i wr => kk = 0 ∧ i = .int .i64 0 ∧ wr = w)
  case atStart => exact ⟨rfl, rfl, rfl⟩
  case round =>
    obtain ⟨rfl, rfl, rfl⟩ := hrel
    go_wp2_with fail
    go_ret
    exact ⟨rfl, rfl⟩
theorem sameInts_gen {w : World} {va vb : Value} {xs ys : List Int} (ha : IntsV w va xs) (hb : IntsV w vb ys) (hn : xs.length ≤ 1000000) (hm : ys.length ≤ 1000000) : Calls Tryz.prog 17 #[va, vb] w fun e w' => e = .returned (.bool (decide (xs = ys))) ∧ ∃ m, w' = w.drewN m := by
  have key : ∀ (oa ob : Option Addr) (ca cb : Nat), va = .slice oa xs.length ca → vb = .slice ob ys.length cb → xs.length ≠ ys.length ∨ (xs = [] ∧ ys = []) → Calls Tryz.prog 17 #[va, vb] w fun e w' => e = .returned (.bool (decide (xs = ys))) ∧ ∃ m, w' = w.drewN m := by
    rintro oa ob ca cb rfl rfl (h | ⟨rfl, rfl⟩)
    · refine (sameInts_ne oa ob _ _ ca cb w h hn hm).mono ?_
      rintro e w' ⟨rfl, rfl⟩
      exact ⟨by rw [decide_eq_false (fun e => h (congrArg List.length e))], 0, rfl⟩
    · refine (sameInts_zero oa ob ca cb w).mono ?_
      rintro e w' ⟨rfl, rfl⟩
      exact ⟨rfl, 0, rfl⟩
  rcases ha with ⟨rfl, rfl⟩ | ⟨g, c, rfl, h2⟩ <;> rcases hb with ⟨rfl, rfl⟩ | ⟨g', c', rfl, h4⟩
  · exact key none none 0 0 rfl rfl (Or.inr ⟨rfl, rfl⟩)
  · by_cases h : ys = []
    · exact key none (some ⟨g', 0, none⟩) 0 c' rfl rfl (Or.inr ⟨rfl, h⟩)
    · exact key none (some ⟨g', 0, none⟩) 0 c' rfl rfl (Or.inl (fun e => h (List.length_eq_zero_iff.1 e.symm)))
  · by_cases h : xs = []
    · exact key (some ⟨g, 0, none⟩) none c 0 rfl rfl (Or.inr ⟨h, rfl⟩)
    · exact key (some ⟨g, 0, none⟩) none c 0 rfl rfl (Or.inl (fun e => h (List.length_eq_zero_iff.1 e)))
  · by_cases h : xs.length = ys.length
    · have F := sameInts_dr (ca := c) (cb := c') (n := xs.length) h2 h4 rfl h.symm hn
      rw [← h]
      exact F
    · exact key (some ⟨g, 0, none⟩) (some ⟨g', 0, none⟩) c c' rfl rfl (Or.inl h)

/-- n events in memory: where each begins and ends, its groups, its bytes -/
structure EvW (w : World) (v : Value) (n : Nat) (A B : Nat → Int) (GV : Nat → Value) (GS : Nat → List Int) (TX : Nat → ByteArray) : Prop where
  val : (n = 0 ∧ ∃ o c, v = .slice o 0 c) ∨ ∃ g c, v = .slice (some ⟨g, 0, none⟩) n c ∧ g < w.heap.size ∧
    (∀ k, k < n → w.cell? ⟨g, k * 4, none⟩ = some (.int .i64 (A k)) ∧ w.cell? ⟨g, k * 4 + 1, none⟩ = some (.int .i64 (B k)) ∧ w.cell? ⟨g, k * 4 + 2, none⟩ = some (GV k) ∧ w.cell? ⟨g, k * 4 + 3, none⟩ = some (.string (TX k)))
  gv : ∀ k, k < n → IntsV w (GV k) (GS k) ∧ (GS k).length ≤ 1000000
theorem EvW.kept {w w' : World} {v : Value} {n : Nat} {A B : Nat → Int} {GV : Nat → Value} {GS : Nat → List Int} {TX : Nat → ByteArray} (h : EvW w v n A B GV GS TX) (k : Kept Nil w w') : EvW w' v n A B GV GS TX := by
  refine ⟨?_, fun i hi => ⟨(h.gv i hi).1.kept k, (h.gv i hi).2⟩⟩
  rcases h.val with h | ⟨g, c, h1, h2, h3⟩
  · exact Or.inl h
  · have kc : ∀ i, w'.cell? ⟨g, i, none⟩ = w.cell? ⟨g, i, none⟩ := fun i => k.cell (p := ⟨g, i, none⟩) h2 (fun h => h)
    exact Or.inr ⟨g, c, h1, Nat.lt_of_lt_of_le h2 k.size, fun i hi => ⟨(kc _).trans (h3 i hi).1, (kc _).trans (h3 i hi).2.1, (kc _).trans (h3 i hi).2.2.1, (kc _).trans (h3 i hi).2.2.2⟩⟩
set_option maxHeartbeats 8000000 in
theorem same_rd {w : World} {va vb : Value} {n : Nat} {A B : Nat → Int} {GV GV' : Nat → Value} {GS GS' : Nat → List Int} {TX : Nat → ByteArray} (gr : Bool) (ha : EvW w va n A B GV GS TX) (hb : EvW w vb n A B GV' GS' TX) (hn : n ≤ 100000000) (hg : gr = true → ∀ k, k < n → GS k = GS' k) :
    Calls Tryz.prog 12 #[va, vb, .bool gr] w fun e w' => e = .returned (.bool true) ∧ Kept Nil w w' := by
  have H1 := hid ha
  have H2 := hid hb
  have HG := hid hg
  by_cases h0 : n = 0
  · subst h0
    obtain ⟨oa, ca, rfl⟩ : ∃ o c, va = .slice o 0 c := by
      rcases ha.val with ⟨_, h⟩ | ⟨g, c, h, _⟩
      · exact h
      · exact ⟨_, _, h⟩
    obtain ⟨ob, cb, rfl⟩ : ∃ o c, vb = .slice o 0 c := by
      rcases hb.val with ⟨_, h⟩ | ⟨g, c, h, _⟩
      · exact h
      · exact ⟨_, _, h⟩
    clear ha hb hg H1 H2 HG hn
    go_enter Tryz.func12, Tryz.ntmps12
    go_wp2_with fail
    go_loopg [7] 0 (fun kk i wr => kk = 0 ∧ i = .int .i64 0 ∧ wr = w)
    case atStart => exact ⟨rfl, rfl, rfl⟩
    case round =>
      obtain ⟨rfl, rfl, rfl⟩ := hrel
      go_wp2_with fail
      go_ret
      exact ⟨rfl, Kept.refl _ _⟩
  · obtain ⟨g, c, rfl, hlt, _⟩ := ha.val.resolve_left (fun h => h0 h.1)
    obtain ⟨g', c', rfl, hlt', _⟩ := hb.val.resolve_left (fun h => h0 h.1)
    clear ha hb hg hlt hlt'
    go_enter Tryz.func12, Tryz.ntmps12
    go_wp2_with fail
    go_loopg [7] n (fun kk i wr => ∃ j : Nat, i = .int .i64 j ∧ j ≤ n ∧ kk = n - j ∧ Hid (Kept Nil w wr))
    case atStart => exact ⟨0, rfl, Nat.zero_le _, rfl, Kept.refl _ _⟩
    case round =>
      obtain ⟨j, rfl, hj, rfl, K⟩ := hrel
      by_cases hjn : j < n
      · have E1 := H1.out.kept K.out
        have E2 := H2.out.kept K.out
        obtain ⟨g1, c1, e1, _, f1⟩ := E1.val.resolve_left (fun h => h0 h.1)
        obtain ⟨g2, c2, e2, _, f2⟩ := E2.val.resolve_left (fun h => h0 h.1)
        simp only [Value.slice.injEq, Option.some.injEq, Addr.mk.injEq, true_and, and_true] at e1 e2
        obtain ⟨rfl, rfl⟩ := e1
        obtain ⟨rfl, rfl⟩ := e2
        obtain ⟨a0, a1, a2, a3⟩ := f1 j hjn
        obtain ⟨b0, b1, b2, b3⟩ := f2 j hjn
        have G1 := hid (E1.gv j hjn)
        have G2 := hid (E2.gv j hjn)
        have HGj : Hid (gr = true → GS j = GS' j) := fun h => HG.out h j hjn
        clear f1 f2 E1 E2
        generalize A j = xa at *
        generalize B j = xb at *
        generalize GV j = gv at *
        generalize GV' j = gv' at *
        generalize GS j = gs at *
        generalize GS' j = gs' at *
        generalize TX j = tx at *
        go_wp2_with fail
        go_big_quiet (fail)
        clear a0 a1 a3 b0 b1 b3
        replace a2 : (wr.drewN nq).cell? ⟨g, j * 4 + 2, none⟩ = some gv := a2
        replace b2 : (wr.drewN nq).cell? ⟨g', j * 4 + 2, none⟩ = some gv' := b2
        have K1 : Hid (Kept Nil w (wr.drewN nq)) := K.out.drewN nq
        have F : Hid (∀ n, Calls Tryz.prog 17 #[gv, gv'] ((wr.drewN nq).drewN n) fun e w' => e = .returned (.bool (decide (gs = gs'))) ∧ ∃ m, w' = (wr.drewN nq).drewN m) := fun n => by
          have kk : Kept Nil wr ((wr.drewN nq).drewN n) := ((Kept.refl Nil wr).drewN nq).drewN n
          refine (sameInts_gen (G1.out.1.kept kk) (G2.out.1.kept kk) G1.out.2 G2.out.2).mono ?_
          rintro e w' ⟨rfl, m, rfl⟩
          exact ⟨rfl, n + m, by rw [World.drewN_drewN]⟩
        clear G1 G2
        obtain ⟨eq, HEQ⟩ : ∃ eq, Hid (decide (gs = gs') = eq) := ⟨_, (rfl : _ = _)⟩
        rw [HEQ.out] at F
        clear K
        generalize wr.drewN nq = wr2 at *
        clear nq
        go_wp2_with fail
        go_big_quiet (first | (go_at_call 17; exact F.out _))
        have hcase : gr = false ∨ eq = true := by
          cases gr
          · exact Or.inl rfl
          · right
            rw [← HEQ.out]
            exact decide_eq_true (HGj.out rfl)
        rcases hcase with rfl | rfl
        · go_wp2_with fail
          go_roundg (n - (j + 1))
          case measure => omega
          case rel => exact ⟨j + 1, by go_num, by omega, rfl, K1.out.drewN _⟩
        · cases gr
          all_goals
            go_wp2_with fail
            go_roundg (n - (j + 1))
            case measure => omega
            case rel => exact ⟨j + 1, by go_num, by omega, rfl, K1.out.drewN _⟩
      · go_wp2_with fail
        go_ret
        exact ⟨rfl, K.out⟩
end Go.Proofs.YtnbfddjaonlmaaaGreatDoor
namespace Go.Proofs.YtnbfddjaonlmaaaGreatDoor

/-! ## a leaf, as often as may be -/
variable {x : TX} {s : ByteArray} {sp : Spans} {fo nt : Bool}
/-! ## the rows of a text -/

def Asc (s : ByteArray) : Prop := ∀ b ∈ s.data.toList, b.toNat < 128
theorem Asc.get {s : ByteArray} (h : Asc s) {p : Nat} (hp : p < s.size) : (s.get! p).toNat < 128 := by
  have e : s.get! p = s.data[p]'hp := by
    show s.data[p]! = _
    exact getElem!_pos s.data p hp
  rw [e]
  exact h _ (by rw [← Array.getElem_toList]; exact List.getElem_mem _)
theorem Asc.decode {s : ByteArray} (h : Asc s) {p : Nat} (hp : p < s.size) : Utf8.decode s p = ((s.get! p).toNat, 1) := (decode_wide s p hp).2.2.2.2.1 (h.get hp)
theorem Asc.bd_eq {s : ByteArray} (h : Asc s) : ∀ i, i ≤ (runesOf s).length → bd s i = i
  | 0, _ => bd_zero s
  | i + 1, hi => by
    have e := h.bd_eq i (by omega)
    rw [bd_next (by omega), h.decode (bd_size (by omega)), e]
theorem Asc.len {s : ByteArray} (h : Asc s) : (runesOf s).length = s.size := by
  have h1 := h.bd_eq _ (Nat.le_refl _)
  rw [bd_end (Nat.le_refl _)] at h1
  exact h1.symm
theorem Asc.bd {s : ByteArray} (h : Asc s) {i : Nat} (hi : i ≤ s.size) : bd s i = i := h.bd_eq i (by rw [h.len]; exact hi)
theorem Asc.rune {s : ByteArray} (h : Asc s) {i : Nat} (hi : i < s.size) : (txOf s).rune i = ((s.get! i).toNat : Int) := by
  rw [rune_bd (by rw [h.len]; exact hi), h.bd (by omega), h.decode hi]
/-! ## the patterns of Rows -/
end Go.Proofs.YtnbfddjaonlmaaaGreatDoor
namespace Go.Proofs.YtnbfddjaonlmaaaGreatDoor
open Go.RowKit Go.Maps

/-- an event's four cells, without groups -/
def plC (s : ByteArray) (p : Nat × Nat) : List Value := [.int .i64 (p.1 : Int), .int .i64 (p.2 : Int), .slice none 0 0, .string (s.extract p.1 p.2)]
def plF (s : ByteArray) (l : List (Nat × Nat)) : List Value := l.flatMap (plC s)
def PlAt (w : World) (base : Nat) (v : Value) (s : ByteArray) (l : List (Nat × Nat)) : Prop := w.ownsRow base 45 4 v l.length (plF s l)
theorem plF_snoc (s : ByteArray) (l : List (Nat × Nat)) (p : Nat × Nat) : plF s (l ++ [p]) = plF s l ++ plC s p := by unfold plF; simp
theorem plF_get (s : ByteArray) : ∀ (l : List (Nat × Nat)) (i : Nat) (h : i < l.length) (j : Nat) (hj : j < 4), (plF s l)[i * 4 + j]? = (plC s l[i])[j]?
  | [], i, h, _, _ => by simp at h
  | p :: l, 0, h, j, hj => by
    show (plC s p ++ plF s l)[0 * 4 + j]? = _
    rw [List.getElem?_append_left (by show _ < 4; omega), show 0 * 4 + j = j by omega]
    rfl
  | p :: l, i + 1, h, j, hj => by
    show (plC s p ++ plF s l)[(i + 1) * 4 + j]? = _
    rw [List.getElem?_append_right (by show 4 ≤ _; omega), show (i + 1) * 4 + j - (plC s p).length = i * 4 + j by show (i + 1) * 4 + j - 4 = _; omega]
    exact plF_get s l i (by simpa using h) j hj
theorem PlAt.evW {w : World} {base : Nat} {v : Value} {s : ByteArray} {l : List (Nat × Nat)} (h : PlAt w base v s l) : EvW w v l.length (fun k => ((l.getD k (0, 0)).1 : Int)) (fun k => ((l.getD k (0, 0)).2 : Int)) (fun _ => .slice none 0 0) (fun _ => []) (fun k => s.extract (l.getD k (0, 0)).1 (l.getD k (0, 0)).2) := by
  refine ⟨?_, fun k hk => ⟨Or.inl ⟨rfl, rfl⟩, Nat.zero_le _⟩⟩
  obtain ⟨hx, h1⟩ := h
  rcases h1 with ⟨hv, h0⟩ | ⟨g, cap, cur, rfl, a1, a2, a3, a4, a5, a6⟩
  · exact Or.inl ⟨h0, none, 0, hv⟩
  · refine Or.inr ⟨g, cap, rfl, (Array.getElem?_eq_some_iff.1 a2).1, fun i hi => ?_⟩
    have gd : l.getD i (0, 0) = l[i] := by simp [List.getD_eq_getElem?_getD, List.getElem?_eq_getElem hi]
    have key : ∀ j, j < 4 → w.cell? ⟨g, i * 4 + j, none⟩ = (plC s l[i])[j]? := fun j hj => by
      rw [← plF_get s l i hi j hj, ← a6, List.getElem?_take_of_lt (by omega)]
      simp only [World.cell?, a2]
      simp
    simp only [gd]
    exact ⟨key 0 (by omega), key 1 (by omega), key 2 (by omega), key 3 (by omega)⟩
theorem EvsAt.evW {w : World} {base N2 : Nat} {v : Value} {s : ByteArray} {l : List (Ev × Nat)} (h : EvsAt w base v s N2 l) (hN : ∀ p ∈ l, p.1.gs.length = N2) (hb : N2 ≤ 1000000) : EvW w v l.length (fun k => (bd s (l.getD k (⟨0, 0, []⟩, 0)).1.a : Int)) (fun k => (bd s (l.getD k (⟨0, 0, []⟩, 0)).1.b : Int)) (fun k => .slice (some ⟨(l.getD k (⟨0, 0, []⟩, 0)).2, 0, none⟩) N2 N2) (fun k => (l.getD k (⟨0, 0, []⟩, 0)).1.gs) (fun k => s.extract (bd s (l.getD k (⟨0, 0, []⟩, 0)).1.a) (bd s (l.getD k (⟨0, 0, []⟩, 0)).1.b)) := by
  have gd : ∀ k, (hk : k < l.length) → l.getD k (⟨0, 0, []⟩, 0) = l[k] := fun k hk => by simp [List.getD_eq_getElem?_getD, List.getElem?_eq_getElem hk]
  refine ⟨?_, fun k hk => ?_⟩
  · by_cases hne : l = []
    · subst hne
      obtain ⟨o, c, rfl⟩ := ownsRow_slice h.row
      exact Or.inl ⟨rfl, o, c, rfl⟩
    · obtain ⟨g, c, rfl, h1, h2, h3, h4⟩ := h.get hne
      refine Or.inr ⟨g, c, rfl, h2, fun k hk => ?_⟩
      simp only [gd k hk]
      exact h4 k hk
  · simp only [gd k hk]
    have hl := hN _ (List.getElem_mem hk)
    exact ⟨Or.inr ⟨_, N2, by rw [hl], (h.grp _ (List.getElem_mem hk)).2⟩, by omega⟩

theorem add_at0 (b q : Nat) : (Addr.mk b 0 none).add q = ⟨b, q, none⟩ := by
  unfold Addr.add
  split
  · rename_i h
    have : q = 0 := by simpa using h
    subst this; rfl
  · simp
theorem slice_two (s : ByteArray) (a n : Nat) (h : a + n ≤ s.size) (wx : World) : (Instr.slice 9 (.string s) (some (.int .i64 (a : Int))) (some (.int .i64 ((a : Int) + (n : Int)))) none).run Tryz.prog wx = .ok (.string (s.extract a (a + n))) wx := by
  have := run_slice_string (P := Tryz.prog) wx 9 s .i64 .i64 (a : Int) ((a : Int) + (n : Int)) Tryz.underlying9 (by omega) (by omega) (by omega)
  rw [this]
  congr 3 <;> omega
theorem Kept.later {w wr w' : World} {S : Nat → Prop} (h : Kept Nil w wr) (k : Kept S wr w') (hS : ∀ i, S i → w.heap.size ≤ i) : Kept Nil w w' :=
  ⟨k.os.trans h.os, k.tape.trans h.tape, k.output.trans h.output, Nat.le_trans h.size k.size, fun i hi _ => (k.block i (Nat.lt_of_lt_of_le hi h.size) (fun hx => by have := hS i hx; omega)).trans (h.block i hi (fun h => h))⟩
set_option maxRecDepth 100000

theorem EvW.congr {w : World} {v : Value} {n m : Nat} {A A' B B' : Nat → Int} {GV : Nat → Value} {GS GS' : Nat → List Int} {TX TX' : Nat → ByteArray} (h : EvW w v n A B GV GS TX) (hn : n = m) (hA : ∀ k, k < n → A k = A' k) (hB : ∀ k, k < n → B k = B' k) (hG : ∀ k, k < n → GS k = GS' k) (hT : ∀ k, k < n → TX k = TX' k) : EvW w v m A' B' GV GS' TX' := by
  subst hn
  refine ⟨?_, fun k hk => by rw [← hG k hk]; exact h.gv k hk⟩
  rcases h.val with h1 | ⟨g, c, h1, h2, h3⟩
  · exact Or.inl h1
  · exact Or.inr ⟨g, c, h1, h2, fun k hk => by rw [← hA k hk, ← hB k hk, ← hT k hk]; exact h3 k hk⟩
/-- what Find tells of a text of single bytes, against a list of places -/
theorem EvsAt.plain {w : World} {base N2 : Nat} {v : Value} {s : ByteArray} {l : List (Ev × Nat)} {R : List (Nat × Nat)} (h : EvsAt w base v s N2 l) (hN : N2 = 0) (hA : Asc s) (hl : l.map (·.1) = R.map fun q => (⟨q.1, q.2, []⟩ : Ev)) (hR : ∀ q ∈ R, q.1 ≤ s.size ∧ q.2 ≤ s.size) :
    ∃ GV, EvW w v R.length (fun k => ((R.getD k (0, 0)).1 : Int)) (fun k => ((R.getD k (0, 0)).2 : Int)) GV (fun _ => []) (fun k => s.extract (R.getD k (0, 0)).1 (R.getD k (0, 0)).2) := by
  have hlen : l.length = R.length := by have := congrArg List.length hl; simpa using this
  have hk : ∀ k, k < l.length → ∃ q ∈ R, R.getD k (0, 0) = q ∧ (l.getD k (⟨0, 0, []⟩, 0)).1 = (⟨q.1, q.2, []⟩ : Ev) := fun k hk => by
    have hk' : k < R.length := by omega
    refine ⟨R[k], List.getElem_mem _, by simp [List.getD_eq_getElem?_getD, hk'], ?_⟩
    have e := congrArg (·[k]?) hl
    simp only [List.getElem?_map, List.getElem?_eq_getElem hk, List.getElem?_eq_getElem hk', Option.map_some, Option.some.injEq] at e
    rw [← e]
    simp [List.getD_eq_getElem?_getD, hk]
  have hgs : ∀ p ∈ l, p.1.gs.length = N2 := fun p hp => by
    obtain ⟨k, hkl, rfl⟩ := List.getElem_of_mem hp
    obtain ⟨q, _, _, e⟩ := hk k hkl
    have e' : l.getD k (⟨0, 0, []⟩, 0) = l[k] := by simp [List.getD_eq_getElem?_getD, hkl]
    rw [e'] at e
    rw [e, hN]
    rfl
  refine ⟨_, (h.evW hgs (by omega)).congr hlen ?_ ?_ ?_ ?_⟩
  · intro k hk1
    obtain ⟨q, hq, e1, e2⟩ := hk k hk1
    simp only [e1, e2]
    rw [hA.bd (hR q hq).1]
  · intro k hk1
    obtain ⟨q, hq, e1, e2⟩ := hk k hk1
    simp only [e1, e2]
    rw [hA.bd (hR q hq).2]
  · intro k hk1
    obtain ⟨q, hq, e1, e2⟩ := hk k hk1
    simp only [e2]
  · intro k hk1
    obtain ⟨q, hq, e1, e2⟩ := hk k hk1
    simp only [e1, e2]
    rw [hA.bd (hR q hq).1, hA.bd (hR q hq).2]
end Go.Proofs.YtnbfddjaonlmaaaGreatDoor
namespace Go.Proofs.YtnbfddjaonlmaaaGreatDoor

/-- st, n runes on -/
def RS.on (st : RS) (n : Nat) : RS := { st with next := st.next + n }
theorem RS.on_on (st : RS) (a b : Nat) : (st.on a).on b = st.on (a + b) := by unfold RS.on; simp [Nat.add_assoc]
theorem RS.on_zero (st : RS) : st.on 0 = st := rfl
theorem see_head {g : RG} {st : RS} {l : List Int} (h : g.rs.drop st.next = l) : seeOf g st = l.headD (-1) := by
  unfold seeOf
  rw [← h]
  simp [List.getD_eq_getElem?_getD, List.headD_eq_head?_getD, List.head?_drop]
theorem drop_on {g : RG} {st : RS} {u v : List Int} (h : g.rs.drop st.next = u ++ v) : g.rs.drop (st.on u.length).next = v := by
  show g.rs.drop (st.next + u.length) = v
  rw [← List.drop_drop, h]
  simp
theorem drop_len {g : RG} {st : RS} {u v : List Int} (h : g.rs.drop st.next = u ++ v) : u.length ≤ g.rs.length := by
  have := congrArg List.length h
  simp at this
  omega
/-- no sign of times -/
def NoRep (r : Int) : Prop := inSet lStar r = false ∧ inSet lPlus r = false ∧ inSet lQuery r = false ∧ inSet lOpenBrace r = false
/-- here a choice ends -/
def Stop (r : Int) : Prop := r = -1 ∨ r = 41
/-- here a row of pieces ends -/
def Stop2 (r : Int) : Prop := r = -1 ∨ r = 41 ∨ r = 124
theorem Stop.two {r : Int} (h : Stop r) : Stop2 r := h.elim Or.inl (fun h => Or.inr (Or.inl h))
theorem Stop2.noRep {r : Int} (h : Stop2 r) : NoRep r := by
  rcases h with rfl | rfl | rfl <;> exact ⟨rfl, rfl, rfl, rfl⟩
theorem Stop2.stop {r : Int} (h : Stop2 r) : r = -1 ∨ inSet lBarRound r = true := by
  rcases h with rfl | rfl | rfl
  · exact Or.inl rfl
  · exact Or.inr rfl
  · exact Or.inr rfl
theorem Stop.noBar {r : Int} (h : Stop r) : inSet lBar r = false := by
  rcases h with rfl | rfl <;> rfl
/-- u is read as the pieces ps, cs, whatever follows that is no sign of times -/
structure SeqOk (d : Nat) (u : List Int) (ps : List PT) (cs : List CT) : Prop where
  len : ps.length = cs.length
  few : ps.length ≤ u.length
  run : ∀ (g : RG) (st : RS) (rest : List Int) (k m : Nat) (acc : List PT) (acc' : List CT), d ≤ k → g.rs.drop st.next = u ++ rest → NoRep (rest.headD (-1)) →
    pSeqs g (pAlt g k) (m + ps.length) st acc = pSeqs g (pAlt g k) m (st.on u.length) (acc ++ ps) ∧ cSeqs g (pAlt g k) (cAlt g k) false (m + cs.length) st acc' = cSeqs g (pAlt g k) (cAlt g k) false m (st.on u.length) (acc' ++ cs)
theorem SeqOk.nil (d : Nat) : SeqOk d [] [] [] := ⟨rfl, Nat.le_refl _, fun g st rest k m acc acc' _ _ _ => ⟨by simp [RS.on_zero], by simp [RS.on_zero]⟩⟩
theorem SeqOk.append {d : Nat} {u v : List Int} {ps qs : List PT} {cs ds : List CT} (h1 : SeqOk d u ps cs) (h2 : SeqOk d v qs ds) (hv : ∀ r, v.head? = some r → NoRep r) : SeqOk d (u ++ v) (ps ++ qs) (cs ++ ds) := by
  refine ⟨by simp [h1.len, h2.len], by have := h1.few; have := h2.few; simp; omega, fun g st rest k m acc acc' hk hd hr => ?_⟩
  rw [List.append_assoc] at hd
  have hr1 : NoRep ((v ++ rest).headD (-1)) := by
    cases v with
    | nil => exact hr
    | cons a v => exact hv a rfl
  have a1 := h1.run g st (v ++ rest) k (m + qs.length) acc acc' hk hd hr1
  have a2 := h1.run g st (v ++ rest) k (m + ds.length) acc acc' hk hd hr1
  have b := h2.run g (st.on u.length) rest k m (acc ++ ps) (acc' ++ cs) hk (drop_on hd) hr
  rw [List.length_append, List.length_append, List.length_append, show m + (ps.length + qs.length) = m + qs.length + ps.length by omega, show m + (cs.length + ds.length) = m + ds.length + cs.length by omega]
  exact ⟨by rw [a1.1, b.1, RS.on_on, List.append_assoc], by rw [a2.2, b.2, RS.on_on, List.append_assoc]⟩
/-- u is read as one atom -/
structure AtomOk (d : Nat) (u : List Int) (p : PT) (c : CT) : Prop where
  beg : ∃ r v, u = r :: v ∧ r ≠ -1 ∧ inSet lBarRound r = false
  run : ∀ (g : RG) (st : RS) (rest : List Int) (k : Nat), d ≤ k → g.rs.drop st.next = u ++ rest → pAtom g (pAlt g k) st = (st.on u.length, p) ∧ cAtom g (cAlt g k) false st = c
/-- v is read as a sign of times -/
def RepOk (v : List Int) (fp : PT → PT) (fc : CT → CT) : Prop := ∀ (g : RG) (st : RS) (rest : List Int), g.rs.drop st.next = v ++ rest → NoRep (rest.headD (-1)) → ∀ p c, pRepeated g p st = (st.on v.length, fp p) ∧ cRepeated g c st = fc c
theorem RepOk.none : RepOk [] id id := fun g st rest hd hr p c => by
  have hs := see_head (l := rest) hd
  unfold pRepeated cRepeated
  rw [hs]
  generalize rest.headD (-1) = r at hr
  obtain ⟨h1, h2, h3, h4⟩ := hr
  simp [h1, h2, h3, h4, RS.on_zero]
theorem AtomOk.item {d : Nat} {u v : List Int} {p : PT} {c : CT} {fp : PT → PT} {fc : CT → CT} (h : AtomOk d u p c) (hv : RepOk v fp fc) : SeqOk d (u ++ v) [fp p] [fc c] := by
  obtain ⟨r, t, hu, hr1, hr2⟩ := h.beg
  refine ⟨rfl, by rw [hu]; simp, fun g st rest k m acc acc' hk hd hr => ?_⟩
  rw [List.append_assoc] at hd
  have hs : seeOf g st = r := by rw [see_head hd, hu]; rfl
  obtain ⟨a1, a2⟩ := h.run g st (v ++ rest) k hk hd
  obtain ⟨b1, b2⟩ := hv g (st.on u.length) rest (drop_on hd) hr p c
  have hno : ¬ (seeOf g st = -1 ∨ inSet lBarRound (seeOf g st) = true) := by rw [hs, hr2]; simp [hr1]
  constructor
  · show pSeqs g (pAlt g k) (m + 1) st acc = _
    unfold pSeqs
    rw [if_neg hno, a1]
    simp only
    rw [b1, RS.on_on, List.length_append]
    cases m <;> rfl
  · show cSeqs g (pAlt g k) (cAlt g k) false (m + 1) st acc' = _
    unfold cSeqs
    rw [if_neg hno, a1, a2]
    simp only
    rw [b1, b2, RS.on_on, List.length_append]
    cases m <;> rfl
def seqP (ps : List PT) : PT := .node 2 ps 0 0
def seqC (cs : List CT) : CT := .node 3 [] false false 0 0 0 0 false cs
def altP (ps : List PT) : PT := .node 3 ps 0 0
def altC (cs : List CT) : CT := .node 4 [] false false 0 0 0 0 false cs
theorem pSeqs_stop {g : RG} {alt : RS → RS × PT} {m : Nat} {st : RS} {acc : List PT} (h : seeOf g st = -1 ∨ inSet lBarRound (seeOf g st) = true) : pSeqs g alt m st acc = (st, acc) := by
  cases m with
  | zero => rfl
  | succ m => unfold pSeqs; rw [if_pos h]
theorem SeqOk.whole {d : Nat} {u : List Int} {ps : List PT} {cs : List CT} (h : SeqOk d u ps cs) {g : RG} {st : RS} {rest : List Int} {k : Nat} (hk : d ≤ k) (hd : g.rs.drop st.next = u ++ rest) (hr : Stop2 (rest.headD (-1))) :
    pSeq g (pAlt g k) st = (st.on u.length, seqP ps) ∧ cSeq g (pAlt g k) (cAlt g k) false st = seqC cs := by
  have hl := drop_len hd
  have hf := h.few
  obtain ⟨m, hm⟩ : ∃ m, g.rs.length + 1 = m + ps.length := ⟨g.rs.length + 1 - ps.length, by omega⟩
  have a := h.run g st rest k m [] [] hk hd hr.noRep
  have hs : seeOf g (st.on u.length) = -1 ∨ inSet lBarRound (seeOf g (st.on u.length)) = true := by rw [see_head (drop_on hd)]; exact hr.stop
  unfold pSeq cSeq
  rw [hm]
  refine ⟨by rw [a.1, pSeqs_stop hs]; rfl, ?_⟩
  rw [h.len, a.2, cSeqs_end _ _ _ _ _ _ _ hs]
  rfl
/-- what stands behind the first of some choices -/
structure AltsOk (d : Nat) (u : List Int) (ps : List PT) (cs : List CT) : Prop where
  len : ps.length = cs.length
  few : ps.length ≤ u.length
  beg : ∀ r, u.head? = some r → r = 124
  run : ∀ (g : RG) (st : RS) (rest : List Int) (k m : Nat) (acc : List PT) (acc' : List CT), d ≤ k → g.rs.drop st.next = u ++ rest → Stop (rest.headD (-1)) →
    pAlts g (pAlt g k) (m + ps.length) st acc = pAlts g (pAlt g k) m (st.on u.length) (acc ++ ps) ∧ cAlts g (pAlt g k) (cAlt g k) false (m + cs.length) st acc' = cAlts g (pAlt g k) (cAlt g k) false m (st.on u.length) (acc' ++ cs)
theorem AltsOk.nil (d : Nat) : AltsOk d [] [] [] := ⟨rfl, Nat.le_refl _, (fun r h => by cases h), fun g st rest k m acc acc' _ _ _ => ⟨by simp [RS.on_zero], by simp [RS.on_zero]⟩⟩
theorem AltsOk.cons {d : Nat} {u v : List Int} {ps qs : List PT} {cs ds : List CT} (h1 : SeqOk d u ps cs) (h2 : AltsOk d v qs ds) : AltsOk d (124 :: (u ++ v)) (seqP ps :: qs) (seqC cs :: ds) := by
  refine ⟨by simp [h2.len], by have := h2.few; simp; omega, (fun r h => by cases h; rfl), fun g st rest k m acc acc' hk hd hr => ?_⟩
  have hd0 : g.rs.drop st.next = [124] ++ (u ++ (v ++ rest)) := by rw [hd]; simp
  have hs : seeOf g st = 124 := by rw [see_head hd0]; rfl
  have hd1 : g.rs.drop (st.on 1).next = u ++ (v ++ rest) := drop_on hd0
  have hst : Stop2 ((v ++ rest).headD (-1)) := by
    cases v with
    | nil => exact hr.two
    | cons a v => have := h2.beg a rfl; subst this; exact Or.inr (Or.inr rfl)
  obtain ⟨a1, a2⟩ := h1.whole hk hd1 hst
  have hd2 := drop_on hd1
  have b1 := h2.run g ((st.on 1).on u.length) rest k m (acc ++ [seqP ps]) (acc' ++ [seqC cs]) hk hd2 hr
  have e1 : (pSeq g (pAlt g k) { st with next := st.next + 1 }) = ((st.on 1).on u.length, seqP ps) := a1
  have e2 : cSeq g (pAlt g k) (cAlt g k) false { st with next := st.next + 1 } = seqC cs := a2
  have hb : inSet lBar (seeOf g st) = true := by rw [hs]; rfl
  have hon : (st.on 1).on u.length = st.on (1 + u.length) := RS.on_on _ _ _
  have hfin : ((st.on 1).on u.length).on v.length = st.on (124 :: (u ++ v)).length := by rw [RS.on_on, RS.on_on]; congr 1; simp; omega
  constructor
  · show pAlts g (pAlt g k) (m + qs.length + 1) st acc = _
    have step : pAlts g (pAlt g k) (m + qs.length + 1) st acc = pAlts g (pAlt g k) (m + qs.length) (pSeq g (pAlt g k) { st with next := st.next + 1 }).1 (acc ++ [(pSeq g (pAlt g k) { st with next := st.next + 1 }).2]) := by
      show (if inSet lBar (seeOf g st) then _ else _) = _
      rw [if_pos hb]
    rw [step, e1]
    simp only
    rw [b1.1, hfin, List.append_assoc]
    rfl
  · show cAlts g (pAlt g k) (cAlt g k) false (m + ds.length + 1) st acc' = _
    have step : cAlts g (pAlt g k) (cAlt g k) false (m + ds.length + 1) st acc' = cAlts g (pAlt g k) (cAlt g k) false (m + ds.length) (pSeq g (pAlt g k) { st with next := st.next + 1 }).1 (acc' ++ [cSeq g (pAlt g k) (cAlt g k) false { st with next := st.next + 1 }]) := by
      show (if inSet lBar (seeOf g st) then _ else _) = _
      rw [if_pos hb]
    rw [step, e1, e2]
    simp only
    rw [b1.2, hfin, List.append_assoc]
    rfl
theorem SeqOk.alts {d : Nat} {u v : List Int} {ps qs : List PT} {cs ds : List CT} (h1 : SeqOk d u ps cs) (h2 : AltsOk d v qs ds) : AltsOk d (124 :: (u ++ v)) (seqP ps :: qs) (seqC cs :: ds) := AltsOk.cons h1 h2
/-- u is read as a choice -/
def ChOk (d : Nat) (u : List Int) (p : PT) (c : CT) : Prop := ∀ (g : RG) (st : RS) (rest : List Int) (k : Nat), d ≤ k → g.rs.drop st.next = u ++ rest → Stop (rest.headD (-1)) → pAlt g (k + 1) st = (st.on u.length, p) ∧ cAlt g (k + 1) false st = c
theorem SeqOk.alt {d : Nat} {u v : List Int} {ps qs : List PT} {cs ds : List CT} (h1 : SeqOk d u ps cs) (h2 : AltsOk d v qs ds) : ChOk d (u ++ v) (altP (seqP ps :: qs)) (altC (seqC cs :: ds)) := fun g st rest k hk hd hr => by
  rw [List.append_assoc] at hd
  have hst : Stop2 ((v ++ rest).headD (-1)) := by
    cases v with
    | nil => exact hr.two
    | cons a v => have := h2.beg a rfl; subst this; exact Or.inr (Or.inr rfl)
  obtain ⟨a1, a2⟩ := h1.whole hk hd hst
  have hd2 := drop_on hd
  have hl := drop_len hd2
  have hf := h2.few
  obtain ⟨m, hm⟩ : ∃ m, g.rs.length + 1 = m + qs.length := ⟨g.rs.length + 1 - qs.length, by omega⟩
  have b := h2.run g (st.on u.length) rest k m [seqP ps] [seqC cs] hk hd2 hr
  have hend : inSet lBar (seeOf g ((st.on u.length).on v.length)) = false := by rw [see_head (drop_on hd2)]; exact hr.noBar
  constructor
  · show ((pAlts g (pAlt g k) (g.rs.length + 1) (pSeq g (pAlt g k) st).1 [(pSeq g (pAlt g k) st).2]).1, PT.node 3 (pAlts g (pAlt g k) (g.rs.length + 1) (pSeq g (pAlt g k) st).1 [(pSeq g (pAlt g k) st).2]).2 0 0) = _
    rw [a1, hm]
    simp only
    rw [b.1]
    have e : pAlts g (pAlt g k) m ((st.on u.length).on v.length) ([seqP ps] ++ qs) = ((st.on u.length).on v.length, [seqP ps] ++ qs) := by
      cases m with
      | zero => rfl
      | succ m => unfold pAlts; rw [if_neg (by rw [hend]; simp)]
    rw [e, RS.on_on, List.length_append]
    rfl
  · show CT.node 4 [] false false 0 0 0 0 false (cAlts g (pAlt g k) (cAlt g k) false (g.rs.length + 1) (pSeq g (pAlt g k) st).1 [cSeq g (pAlt g k) (cAlt g k) false st]) = _
    rw [a1, a2, hm, h2.len]
    simp only
    rw [b.2, cAlts_end _ _ _ _ _ _ _ hend]
    rfl
set_option maxRecDepth 100000

theorem AtomOk.plain {d : Nat} {c : Int} (h1 : c ≠ -1) (h2 : inSet lBarRound c = false) (h3 : inSet lOpenRound c = false) (h4 : inSet lOpenSquare c = false) (h5 : inSet lBack c = false) (h6 : inSet lSingles c = false) (h7 : inSet lNotPlain c = false) : AtomOk d [c] single (cLeaf [(c, c)] false false) :=
  ⟨⟨c, [], rfl, h1, h2⟩, fun g st rest k hk hd => by
    have hs : seeOf g st = c := by rw [see_head hd]; rfl
    unfold pAtom cAtom needOtherSt
    rw [hs, h3, h4, h5, h6, h7]
    simp [h1]
    rfl⟩
theorem AtomOk.esc {d : Nat} {c : Int} (h1 : inSet lEscape c = true) (h2 : inSet lWordEdge c = false) (h3 : inSet lSets c = false) (h4 : inSet lOthers c = false) (h5 : escRune c = c) : AtomOk d [92, c] single (cLeaf [(c, c)] false false) :=
  ⟨⟨92, [c], rfl, by decide, rfl⟩, fun g st rest k hk hd => by
    have hs : seeOf g st = 92 := by rw [see_head hd]; rfl
    have hd1 : g.rs.drop st.next = [92] ++ (c :: rest) := hd
    have hs1 : seeOf g { st with next := st.next + 1 } = c := by
      have := see_head (st := st.on 1) (drop_on hd1)
      exact this
    unfold pAtom cAtom needSt cEscape
    rw [hs, hs1, h1, h2, h3, h4, h5]
    constructor
    · rw [if_neg (by decide), if_neg (by decide), if_pos (by decide)]
      simp [RS.on]
    · rw [if_neg (by decide), if_neg (by decide), if_pos (by decide)]
      simp⟩
/-! ## a whole pattern -/
def bytesI (p : ByteArray) : List Int := p.data.toList.map fun b => (b.toNat : Int)
theorem scan_asc {p : ByteArray} (h : Asc p) : ∀ m i, p.size - i ≤ m → (scanFrom p m i).map (·.2) = (bytesI p).drop i ∧ ∀ q ∈ scanFrom p m i, q.2 < 128
  | 0, i, hm => by
    refine ⟨?_, fun q hq => by cases hq⟩
    rw [List.drop_eq_nil_of_le (by unfold bytesI; simp; omega)]
    rfl
  | m + 1, i, hm => by
    by_cases hi : i < p.size
    · have hd := h.decode hi
      have hg := h.get hi
      obtain ⟨a, b⟩ := scan_asc h m (i + 1) (by omega)
      have e : scanFrom p (m + 1) i = (i, ((p.get! i).toNat : Int)) :: scanFrom p m (i + 1) := by
        show (if i < p.size then _ else _) = _
        rw [if_pos hi, hd]
      have hl : i < (bytesI p).length := by unfold bytesI; simpa using hi
      have e3 : p.get! i = p.data[i] := by
        show p.data[i]! = _
        exact getElem!_pos p.data i hi
      have e4 : (bytesI p)[i]? = some ((p.get! i).toNat : Int) := by
        unfold bytesI
        rw [List.getElem?_map, List.getElem?_eq_getElem (show i < p.data.toList.length by simpa using hi), e3, Array.getElem_toList]
        rfl
      have e2 : (bytesI p)[i] = ((p.get! i).toNat : Int) := (List.getElem?_eq_some_iff.1 e4).2
      rw [e]
      refine ⟨?_, fun q hq => ?_⟩
      · rw [List.map_cons, a, List.drop_eq_getElem_cons hl, e2]
      · rcases List.mem_cons.1 hq with rfl | hq
        · show ((p.get! i).toNat : Int) < 128; omega
        · exact b q hq
    · have e : scanFrom p (m + 1) i = [] := by
        show (if i < p.size then _ else _) = _
        rw [if_neg hi]
      rw [e, List.drop_eq_nil_of_le (by unfold bytesI; simp; omega)]
      exact ⟨rfl, fun q hq => by cases hq⟩
theorem flt_asc {p : ByteArray} : ∀ l : List (Nat × Int), (∀ q ∈ l, q.2 < 128) → l.foldl (fun F q => if isBad p q then F.note 2 q.1 else F) flt0 = flt0
  | [], _ => rfl
  | q :: l, h => by
    have hq := h q (List.mem_cons_self)
    have e : isBad p q = false := by
      unfold isBad
      have : (q.2 == 65533) = false := by simp; omega
      rw [this]; rfl
    rw [List.foldl_cons, e]
    exact flt_asc l (fun r hr => h r (List.mem_cons_of_mem _ hr))
/-- a pattern that is put together so has no fault and no group -/
theorem pat_whole {p : ByteArray} {d : Nat} {pw : PT} {cw : CT} (hA : Asc p) (hsz : p.size ≤ 300) (h : ChOk d (bytesI p) pw cw) (hd : d ≤ p.size) (hs : pw.size ≤ 1000) : patE p = 0 ∧ patG p = 0 ∧ patC p = cw := by
  obtain ⟨s1, s2⟩ := scan_asc hA (p.size + 1) 0 (by omega)
  have hlen : (bytesI p).length = p.size := by unfold bytesI; simp
  have hrs : (rgOf p).rs = bytesI p := s1
  have hf : (st0 p).flt = flt0 := flt_asc _ s2
  have hl : (rgOf p).rs.length = p.size := by rw [hrs, hlen]
  have hdr : (rgOf p).rs.drop (st0 p).next = bytesI p ++ [] := by rw [hrs]; show (bytesI p).drop 0 = _; simp
  obtain ⟨a1, a2⟩ := h (rgOf p) (st0 p) [] ((rgOf p).rs.length) (by omega) hdr (Or.inl rfl)
  have hend : seeOf (rgOf p) ((st0 p).on (bytesI p).length) = -1 := by rw [see_head (drop_on hdr)]; rfl
  have hw : pWhole (rgOf p) (st0 p) = ((st0 p).on (bytesI p).length, pw) := by
    unfold pWhole
    rw [a1, if_pos hend]
  refine ⟨?_, ?_, ?_⟩
  · unfold patE
    rw [if_neg (by omega)]
    unfold finFlt
    rw [hw]
    simp only
    rw [if_neg (by omega)]
    show (pick (st0 p).flt).1 = 0
    rw [hf]
    rfl
  · unfold patG
    rw [hw]
    rfl
  · exact a2
end Go.Proofs.YtnbfddjaonlmaaaGreatDoor
