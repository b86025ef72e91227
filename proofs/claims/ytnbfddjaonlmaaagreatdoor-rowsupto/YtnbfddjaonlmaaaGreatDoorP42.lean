/- Package trawlkeep's runs: the rows of a text. Rows: of a class with + the rows of its letters, with {n,} those that are long enough. -/
import Derived.Test.YtnbfddjaonlmaaaGreatDoorP41
set_option linter.unusedVariables false
set_option maxRecDepth 100000
namespace Go.Proofs.YtnbfddjaonlmaaaGreatDoor
open Go.RowKit Go.Maps

/-- an event's four cells, without groups -/
def plC (s : ByteArray) (p : Nat × Nat) : List Value := [.int .i64 (p.1 : Int), .int .i64 (p.2 : Int), .slice none 0 0, .string (s.extract p.1 p.2)]
def plF (s : ByteArray) (l : List (Nat × Nat)) : List Value := l.flatMap (plC s)
def PlAt (w : World) (base : Nat) (v : Value) (s : ByteArray) (l : List (Nat × Nat)) : Prop := w.ownsRow base 45 4 v l.length (plF s l)
theorem plF_snoc (s : ByteArray) (l : List (Nat × Nat)) (p : Nat × Nat) : plF s (l ++ [p]) = plF s l ++ plC s p := by unfold plF; simp
theorem plF_get (s : ByteArray) : ∀ (l : List (Nat × Nat)) (i : Nat) (h : i < l.length) (j : Nat) (hj : j < 4), (plF s l)[i * 4 + j]? = (plC s l[i])[j]?
  | [], i, h, _, _ => by simp at h
  | p :: l, 0, h, j, hj => by
    show (plC s p ++ plF s l)[0 * 4 + j]? = _
    rw [List.getElem?_append_left (by show _ < 4; omega), show 0 * 4 + j = j by omega]
    rfl
  | p :: l, i + 1, h, j, hj => by
    show (plC s p ++ plF s l)[(i + 1) * 4 + j]? = _
    rw [List.getElem?_append_right (by show 4 ≤ _; omega), show (i + 1) * 4 + j - (plC s p).length = i * 4 + j by show (i + 1) * 4 + j - 4 = _; omega]
    exact plF_get s l i (by simpa using h) j hj
theorem PlAt.evW {w : World} {base : Nat} {v : Value} {s : ByteArray} {l : List (Nat × Nat)} (h : PlAt w base v s l) : EvW w v l.length (fun k => ((l.getD k (0, 0)).1 : Int)) (fun k => ((l.getD k (0, 0)).2 : Int)) (fun _ => .slice none 0 0) (fun _ => []) (fun k => s.extract (l.getD k (0, 0)).1 (l.getD k (0, 0)).2) := by
  refine ⟨?_, fun k hk => ⟨Or.inl ⟨rfl, rfl⟩, Nat.zero_le _⟩⟩
  obtain ⟨hx, h1⟩ := h
  rcases h1 with ⟨hv, h0⟩ | ⟨g, cap, cur, rfl, a1, a2, a3, a4, a5, a6⟩
  · exact Or.inl ⟨h0, none, 0, hv⟩
  · refine Or.inr ⟨g, cap, rfl, (Array.getElem?_eq_some_iff.1 a2).1, fun i hi => ?_⟩
    have gd : l.getD i (0, 0) = l[i] := by simp [List.getD_eq_getElem?_getD, List.getElem?_eq_getElem hi]
    have key : ∀ j, j < 4 → w.cell? ⟨g, i * 4 + j, none⟩ = (plC s l[i])[j]? := fun j hj => by
      rw [← plF_get s l i hi j hj, ← a6, List.getElem?_take_of_lt (by omega)]
      simp only [World.cell?, a2]
      simp
    simp only [gd]
    exact ⟨key 0 (by omega), key 1 (by omega), key 2 (by omega), key 3 (by omega)⟩
theorem EvsAt.evW {w : World} {base N2 : Nat} {v : Value} {s : ByteArray} {l : List (Ev × Nat)} (h : EvsAt w base v s N2 l) (hN : ∀ p ∈ l, p.1.gs.length = N2) (hb : N2 ≤ 1000000) : EvW w v l.length (fun k => (bd s (l.getD k (⟨0, 0, []⟩, 0)).1.a : Int)) (fun k => (bd s (l.getD k (⟨0, 0, []⟩, 0)).1.b : Int)) (fun k => .slice (some ⟨(l.getD k (⟨0, 0, []⟩, 0)).2, 0, none⟩) N2 N2) (fun k => (l.getD k (⟨0, 0, []⟩, 0)).1.gs) (fun k => s.extract (bd s (l.getD k (⟨0, 0, []⟩, 0)).1.a) (bd s (l.getD k (⟨0, 0, []⟩, 0)).1.b)) := by
  have gd : ∀ k, (hk : k < l.length) → l.getD k (⟨0, 0, []⟩, 0) = l[k] := fun k hk => by simp [List.getD_eq_getElem?_getD, List.getElem?_eq_getElem hk]
  refine ⟨?_, fun k hk => ?_⟩
  · by_cases hne : l = []
    · subst hne
      obtain ⟨o, c, rfl⟩ := ownsRow_slice h.row
      exact Or.inl ⟨rfl, o, c, rfl⟩
    · obtain ⟨g, c, rfl, h1, h2, h3, h4⟩ := h.get hne
      refine Or.inr ⟨g, c, rfl, h2, fun k hk => ?_⟩
      simp only [gd k hk]
      exact h4 k hk
  · simp only [gd k hk]
    have hl := hN _ (List.getElem_mem hk)
    exact ⟨Or.inr ⟨_, N2, by rw [hl], (h.grp _ (List.getElem_mem hk)).2⟩, by omega⟩

theorem add_at0 (b q : Nat) : (Addr.mk b 0 none).add q = ⟨b, q, none⟩ := by
  unfold Addr.add
  split
  · rename_i h
    have : q = 0 := by simpa using h
    subst this; rfl
  · simp
theorem slice_two (s : ByteArray) (a n : Nat) (h : a + n ≤ s.size) (wx : World) : (Instr.slice 9 (.string s) (some (.int .i64 (a : Int))) (some (.int .i64 ((a : Int) + (n : Int)))) none).run Tryz.prog wx = .ok (.string (s.extract a (a + n))) wx := by
  have := run_slice_string (P := Tryz.prog) wx 9 s .i64 .i64 (a : Int) ((a : Int) + (n : Int)) Tryz.underlying9 (by omega) (by omega) (by omega)
  rw [this]
  congr 3 <;> omega
theorem Kept.later {w wr w' : World} {S : Nat → Prop} (h : Kept Nil w wr) (k : Kept S wr w') (hS : ∀ i, S i → w.heap.size ≤ i) : Kept Nil w w' :=
  ⟨k.os.trans h.os, k.tape.trans h.tape, k.output.trans h.output, Nat.le_trans h.size k.size, fun i hi _ => (k.block i (Nat.lt_of_lt_of_le hi h.size) (fun hx => by have := hS i hx; omega)).trans (h.block i hi (fun h => h))⟩
theorem rowP_get {s : ByteArray} {i : Nat} (h : i < s.size) : rowP s i = decide (((s[i]).toNat : Int) = 97 ∨ ((s[i]).toNat : Int) = 98) := by
  have h' : i < s.data.toList.length := by simpa using h
  have e : s[i] = s.data.toList[i] := by
    show s.data[i] = _
    rw [Array.getElem_toList]
  unfold rowP
  rw [List.getElem?_eq_getElem h', e]
  generalize s.data.toList[i] = b
  show isAB b = _
  unfold isAB
  rw [Bool.eq_iff_iff]
  simp only [Bool.or_eq_true, beq_iff_eq, decide_eq_true_eq]
  constructor
  · rintro (rfl | rfl)
    · exact Or.inl rfl
    · exact Or.inr rfl
  · rintro (h | h)
    · exact Or.inl (UInt8.toNat_inj.1 (by show b.toNat = 97; omega))
    · exact Or.inr (UInt8.toNat_inj.1 (by show b.toNat = 98; omega))
set_option maxHeartbeats 8000000 in
theorem runs_rd (s : ByteArray) (least : Nat) (w : World) (hs : s.size ≤ 10000000) (hl1 : 1 ≤ least) (hl : least ≤ 1000) : Calls Tryz.prog 14 #[.string s, .string ⟨#[97, 98]⟩, .int .i64 (least : Int)] w fun e w' => ∃ v, e = .returned v ∧ PlAt w' w.heap.size v s (rowsF s least 0) ∧ Kept Nil w w' := by
  obtain ⟨ie, hie, hze, hse, hbe⟩ := info_parts Tryz.infoEvent
  go_enter Tryz.func14, Tryz.ntmps14
  go_wp2_with fail
  go_loopg [7, 8] (s.size + 1) (fun kk v i wr => ∃ (a : Nat) (l : List (Nat × Nat)), i = .int .i64 a ∧ a ≤ s.size + 1 ∧ kk = s.size + 1 - a ∧ (∃ ao c, v = .slice ao l.length c) ∧ Hid (l ++ rowsF s least a = rowsF s least 0) ∧ l.length ≤ a ∧ Hid (PlAt wr w.heap.size v s l) ∧ Hid (Kept Nil w wr))
  case atStart => exact ⟨0, [], rfl, Nat.zero_le _, rfl, ⟨none, 0, rfl⟩, rfl, Nat.le_refl _, World.ownsRow_nil _ _ _ _, Kept.refl _ _⟩
  case round =>
    obtain ⟨a, l, rfl, ha, rfl, ⟨ao, c, rfl⟩, HL, hll, HR, K⟩ := hrel
    by_cases hlt : a < s.size
    · go_wp2_with fail
      have hrl := rowLen_le s a (by omega)
      go_loopg [9] (rowLen s a) (fun kk n wi => ∃ m : Nat, n = .int .i64 m ∧ m ≤ rowLen s a ∧ kk = rowLen s a - m ∧ wi = wr)
      case atStart => exact ⟨0, rfl, Nat.zero_le _, rfl, rfl⟩
      case round =>
        obtain ⟨m, rfl, hm, rfl, rfl⟩ := hrel
        by_cases hmr : m < rowLen s a
        · have hin := (rowLen_at s a m hm).2 hmr
          have hlt2 := rowP_lt hin
          have hd : ((a : Int) + (m : Int) < (s.size : Int)) := by omega
          rw [rowP_get hlt2] at hin
          have F := held_rd ((s[a + m]'hlt2).toNat : Int) wr
          rw [hin] at F
          have F := hid F
          clear hin
          go_wp2_with fail
          · refine (F.out).mono ?_
            rintro e wr ⟨rfl, rfl⟩
            clear F
            go_wp2_with fail
            go_roundg (rowLen s a - (m + 1))
            case measure => omega
            case rel => exact ⟨m + 1, by go_num, by omega, rfl, rfl⟩
        · obtain rfl : m = rowLen s a := by omega
          have hend := rowP_end s a
          have hks := K.out.size
          have HSTEP := hid (rowsF_step (least := least) hlt)
          obtain ⟨n, HN⟩ : ∃ n, Hid (rowLen s a = n) := ⟨_, (rfl : _ = _)⟩
          rw [HN.out] at hm hmr hrl HSTEP ⊢
          clear hm hmr
          by_cases hA : least ≤ n
          · have HS : Hid (rowsF s least a = [(a, a + n)] ++ rowsF s least (a + n)) := by
              have h := HSTEP.out
              rw [if_pos ⟨hA, by omega⟩, if_neg (by omega)] at h
              exact h
            have hA1 : (least : Int) ≤ (n : Int) := by omega
            have hA2 : (0 : Int) < (n : Int) := by omega
            have hA3 : ((n : Int) == 0) = false := by simp; omega
            have hsl := fun wx => slice_two s a n hrl wx
            clear HSTEP
            by_cases hsz : a + n < s.size
            · have hlt2 : a + n < s.size := hsz
              have hd : ((a : Int) + (n : Int) < (s.size : Int)) := by omega
              rw [HN.out, rowP_get hlt2] at hend
              have F := held_rd ((s[a + n]'hlt2).toNat : Int) wr
              rw [hend] at F
              have F := hid F
              clear hend
              go_wp2_with fail
              refine (F.out).mono ?_
              rintro e wr ⟨rfl, rfl⟩
              clear F
              go_wp2_with (at_builtin; refine wpList_append_own_at _ rfl _ _ 26 rfl w.heap.size 45 ie _ 4 56 Tryz.underlying26 hie hze hse hbe rfl (by decide) _ _ _ rfl (HR.out.alloc _) ⟨wr.heap.size, 0, none⟩ 1 1 (plC s (a, a + n)) rfl rfl ?c1 ?c2 ?c3 ?c4 ?c5 ?_)
              case c1 =>
                intro q u hq
                have h := (Blk.new wr #[.int .i64 (a : Int), .int .i64 ((a : Int) + (n : Int)), .slice none 0 0, .string (s.extract a (a + n))] 45).cell q
                have e : (Addr.mk wr.heap.size 0 none).add q = ⟨wr.heap.size, q, none⟩ := add_at0 wr.heap.size q
                first | (simpa [plC] using hq) | (rw [e, h]; simpa [plC] using hq)
              case c2 =>
                intro u hu
                unfold plC at hu
                simp at hu
                rcases hu with rfl | rfl | rfl | rfl <;> rfl
              case c3 => unfold maxLen; omega
              case c4 => first | omega | (rw [size_alloc1]; omega)
              case c5 => first | omega | (rw [size_alloc1]; omega)
              intro v' w10 hown' hgrow hnil hloc
              obtain ⟨ao', c', rfl⟩ := ownsRow_slice hown'
              have FIN : Hid (PlAt w10 w.heap.size (.slice ao' (l.length + 1) c') s (l ++ [(a, a + n)]) ∧ Kept Nil w w10) := by
                have k7 : Kept (fun j => (Value.slice ao l.length c).ownBlock = some j) wr w10 := (((Kept.refl Nil wr).alloc _).mono (fun i hx => hx.elim)).grown hgrow (fun j hj => Or.inl hj)
                refine ⟨by unfold PlAt; rw [List.length_append, plF_snoc]; exact hown', ?_⟩
                exact K.out.later k7 (fun i hi => (ownsRow_block HR.out hi).1)
              clear hown' hgrow hnil hloc
              go_wp2_with fail
              go_roundg (s.size + 1 - (a + n))
              case measure => omega
              case rel => exact ⟨a + n, l ++ [(a, a + n)], by go_num, by omega, rfl, ⟨ao', c', by rw [List.length_append]; rfl⟩, (by show _ = _; rw [← HL.out, HS.out, List.append_assoc]), by simp; omega, FIN.out.1, FIN.out.2⟩
            · have hd : ¬ ((a : Int) + (n : Int) < (s.size : Int)) := by omega
              clear hend
              go_wp2_with (at_builtin; refine wpList_append_own_at _ rfl _ _ 26 rfl w.heap.size 45 ie _ 4 56 Tryz.underlying26 hie hze hse hbe rfl (by decide) _ _ _ rfl (HR.out.alloc _) ⟨wr.heap.size, 0, none⟩ 1 1 (plC s (a, a + n)) rfl rfl ?c1 ?c2 ?c3 ?c4 ?c5 ?_)
              case c1 =>
                intro q u hq
                have h := (Blk.new wr #[.int .i64 (a : Int), .int .i64 ((a : Int) + (n : Int)), .slice none 0 0, .string (s.extract a (a + n))] 45).cell q
                have e : (Addr.mk wr.heap.size 0 none).add q = ⟨wr.heap.size, q, none⟩ := add_at0 wr.heap.size q
                first | (simpa [plC] using hq) | (rw [e, h]; simpa [plC] using hq)
              case c2 =>
                intro u hu
                unfold plC at hu
                simp at hu
                rcases hu with rfl | rfl | rfl | rfl <;> rfl
              case c3 => unfold maxLen; omega
              case c4 => first | omega | (rw [size_alloc1]; omega)
              case c5 => first | omega | (rw [size_alloc1]; omega)
              intro v' w10 hown' hgrow hnil hloc
              obtain ⟨ao', c', rfl⟩ := ownsRow_slice hown'
              have FIN : Hid (PlAt w10 w.heap.size (.slice ao' (l.length + 1) c') s (l ++ [(a, a + n)]) ∧ Kept Nil w w10) := by
                have k7 : Kept (fun j => (Value.slice ao l.length c).ownBlock = some j) wr w10 := (((Kept.refl Nil wr).alloc _).mono (fun i hx => hx.elim)).grown hgrow (fun j hj => Or.inl hj)
                refine ⟨by unfold PlAt; rw [List.length_append, plF_snoc]; exact hown', ?_⟩
                exact K.out.later k7 (fun i hi => (ownsRow_block HR.out hi).1)
              clear hown' hgrow hnil hloc
              go_wp2_with fail
              go_roundg (s.size + 1 - (a + n))
              case measure => omega
              case rel => exact ⟨a + n, l ++ [(a, a + n)], by go_num, by omega, rfl, ⟨ao', c', by rw [List.length_append]; rfl⟩, (by show _ = _; rw [← HL.out, HS.out, List.append_assoc]), by simp; omega, FIN.out.1, FIN.out.2⟩
          · by_cases hz : n = 0
            · have HS : Hid (rowsF s least a = rowsF s least (a + 1)) := by
                have h := HSTEP.out
                rw [if_neg (by omega), if_pos hz] at h
                exact h
              clear HSTEP
              subst hz
              rw [HN.out, Nat.add_zero, rowP_get hlt] at hend
              have F := held_rd ((s[a]'hlt).toNat : Int) wr
              rw [hend] at F
              have F := hid F
              clear hend
              have hd : ((a : Int) < (s.size : Int)) := by omega
              have hq1 : ¬ ((least : Int) ≤ 0) := by omega
              go_wp2_with fail
              refine (F.out).mono ?_
              rintro e wr ⟨rfl, rfl⟩
              clear F
              go_wp2_with fail
              go_roundg (s.size + 1 - (a + 1))
              case measure => omega
              case rel => exact ⟨a + 1, l, by go_num, by omega, rfl, ⟨ao, c, rfl⟩, (by show _ = _; rw [← HL.out, HS.out]), by omega, HR.out, K.out⟩
            · have HS : Hid (rowsF s least a = rowsF s least (a + n)) := by
                have h := HSTEP.out
                rw [if_neg (by omega), if_neg hz] at h
                exact h
              have hB1 : ¬ ((least : Int) ≤ (n : Int)) := by omega
              have hz1 : ((n : Int) == 0) = false := by simp; omega
              clear HSTEP
              by_cases hsz : a + n < s.size
              · have hlt2 : a + n < s.size := hsz
                have hd : ((a : Int) + (n : Int) < (s.size : Int)) := by omega
                rw [HN.out, rowP_get hlt2] at hend
                have F := held_rd ((s[a + n]'hlt2).toNat : Int) wr
                rw [hend] at F
                have F := hid F
                clear hend
                go_wp2_with fail
                refine (F.out).mono ?_
                rintro e wr ⟨rfl, rfl⟩
                clear F
                go_wp2_with fail
                go_roundg (s.size + 1 - (a + n))
                case measure => omega
                case rel => exact ⟨a + n, l, by go_num, by omega, rfl, ⟨ao, c, rfl⟩, (by show _ = _; rw [← HL.out, HS.out]), by omega, HR.out, K.out⟩
              · have hd : ¬ ((a : Int) + (n : Int) < (s.size : Int)) := by omega
                clear hend
                go_wp2_with fail
                go_roundg (s.size + 1 - (a + n))
                case measure => omega
                case rel => exact ⟨a + n, l, by go_num, by omega, rfl, ⟨ao, c, rfl⟩, (by show _ = _; rw [← HL.out, HS.out]), by omega, HR.out, K.out⟩
    · have hd : ¬ ((a : Int) < (s.size : Int)) := by omega
      go_wp2_with fail
      go_ret
      refine ⟨_, rfl, ?_, K.out⟩
      have := HL.out
      rw [rowsF_end (by omega), List.append_nil] at this
      rw [← this]
      exact HR.out
set_option maxRecDepth 100000

theorem rowsK_in (s : ByteArray) (least : Nat) : ∀ f i, ∀ q ∈ rowsK s least f i, q.1 ≤ s.size ∧ q.2 ≤ s.size
  | 0, i, q, h => by cases h
  | f + 1, i, q, h => by
    unfold rowsK at h
    by_cases hi : s.size ≤ i
    · rw [if_pos hi] at h; cases h
    · rw [if_neg hi] at h
      rcases List.mem_append.1 h with h | h
      · split at h
        · simp at h
          subst h
          have := rowLen_le s i (by omega)
          exact ⟨by show i ≤ _; omega, this⟩
        · cases h
      · exact rowsK_in s least f _ q h
theorem rowsF_in (s : ByteArray) (least i : Nat) : ∀ q ∈ rowsF s least i, q.1 ≤ s.size ∧ q.2 ≤ s.size := rowsK_in s least _ i
theorem rowsK_few (s : ByteArray) (least : Nat) : ∀ f i, (rowsK s least f i).length ≤ f
  | 0, i => Nat.le_refl _
  | f + 1, i => by
    unfold rowsK
    have h := rowsK_few s least f (if rowLen s i = 0 then i + 1 else i + rowLen s i)
    split
    · exact Nat.zero_le _
    · rw [List.length_append]
      split <;> simp <;> omega
theorem EvW.congr {w : World} {v : Value} {n m : Nat} {A A' B B' : Nat → Int} {GV : Nat → Value} {GS GS' : Nat → List Int} {TX TX' : Nat → ByteArray} (h : EvW w v n A B GV GS TX) (hn : n = m) (hA : ∀ k, k < n → A k = A' k) (hB : ∀ k, k < n → B k = B' k) (hG : ∀ k, k < n → GS k = GS' k) (hT : ∀ k, k < n → TX k = TX' k) : EvW w v m A' B' GV GS' TX' := by
  subst hn
  refine ⟨?_, fun k hk => by rw [← hG k hk]; exact h.gv k hk⟩
  rcases h.val with h1 | ⟨g, c, h1, h2, h3⟩
  · exact Or.inl h1
  · exact Or.inr ⟨g, c, h1, h2, fun k hk => by rw [← hA k hk, ← hB k hk, ← hT k hk]; exact h3 k hk⟩
/-- what Find tells of a text of single bytes, against a list of places -/
theorem EvsAt.plain {w : World} {base N2 : Nat} {v : Value} {s : ByteArray} {l : List (Ev × Nat)} {R : List (Nat × Nat)} (h : EvsAt w base v s N2 l) (hN : N2 = 0) (hA : Asc s) (hl : l.map (·.1) = R.map fun q => (⟨q.1, q.2, []⟩ : Ev)) (hR : ∀ q ∈ R, q.1 ≤ s.size ∧ q.2 ≤ s.size) :
    ∃ GV, EvW w v R.length (fun k => ((R.getD k (0, 0)).1 : Int)) (fun k => ((R.getD k (0, 0)).2 : Int)) GV (fun _ => []) (fun k => s.extract (R.getD k (0, 0)).1 (R.getD k (0, 0)).2) := by
  have hlen : l.length = R.length := by have := congrArg List.length hl; simpa using this
  have hk : ∀ k, k < l.length → ∃ q ∈ R, R.getD k (0, 0) = q ∧ (l.getD k (⟨0, 0, []⟩, 0)).1 = (⟨q.1, q.2, []⟩ : Ev) := fun k hk => by
    have hk' : k < R.length := by omega
    refine ⟨R[k], List.getElem_mem _, by simp [List.getD_eq_getElem?_getD, hk'], ?_⟩
    have e := congrArg (·[k]?) hl
    simp only [List.getElem?_map, List.getElem?_eq_getElem hk, List.getElem?_eq_getElem hk', Option.map_some, Option.some.injEq] at e
    rw [← e]
    simp [List.getD_eq_getElem?_getD, hk]
  have hgs : ∀ p ∈ l, p.1.gs.length = N2 := fun p hp => by
    obtain ⟨k, hkl, rfl⟩ := List.getElem_of_mem hp
    obtain ⟨q, _, _, e⟩ := hk k hkl
    have e' : l.getD k (⟨0, 0, []⟩, 0) = l[k] := by simp [List.getD_eq_getElem?_getD, hkl]
    rw [e'] at e
    rw [e, hN]
    rfl
  refine ⟨_, (h.evW hgs (by omega)).congr hlen ?_ ?_ ?_ ?_⟩
  · intro k hk1
    obtain ⟨q, hq, e1, e2⟩ := hk k hk1
    simp only [e1, e2]
    rw [hA.bd (hR q hq).1]
  · intro k hk1
    obtain ⟨q, hq, e1, e2⟩ := hk k hk1
    simp only [e1, e2]
    rw [hA.bd (hR q hq).2]
  · intro k hk1
    obtain ⟨q, hq, e1, e2⟩ := hk k hk1
    simp only [e2]
  · intro k hk1
    obtain ⟨q, hq, e1, e2⟩ := hk k hk1
    simp only [e1, e2]
    rw [hA.bd (hR q hq).1, hA.bd (hR q hq).2]
theorem pat_is : ∀ (k : Nat), k < 5 → (({ data := #[91, 94, 99, 100, 93, 123] } : ByteArray) ++ ({ data := #[48 + (1 + UInt8.ofNat k)] } : ByteArray) ++ ({ data := #[44, 125] } : ByteArray)) = rwQ (1 + k)
  | 0, _ => rfl
  | 1, _ => rfl
  | 2, _ => rfl
  | 3, _ => rfl
  | 4, _ => rfl
  | k + 5, h => by omega
set_option maxHeartbeats 16000000 in
theorem rows_walk {w : World} {v : Value} {zs : List Int} {n : Int} (hR : RawAt w v zs) (hz : zs.length ≤ 10000000) (h1 : -9223372036854775808 ≤ n) (h2 : n ≤ 9223372036854775807) (hT : Tabs w) : Calls Tryz.prog 4 #[v, .int .i64 n] w fun e w' => e = .returned (.bool true) ∧ Kept Nil w w' := by
  have HT := hid hT
  have F := hid (letters_rd (of := ⟨#[97, 98, 99, 100]⟩) hR hz (by decide) (by decide))
  have FP := hid (pick_rd n 5 w (by decide) (by decide) h1 h2)
  clear hR hT h1 h2
  go_enter Tryz.func4, Tryz.ntmps4
  go_wp2_with fail
  refine (F.out).mono ?_
  rintro e w1 ⟨⟨s, rfl, hsz, hsl⟩, rfl⟩
  have HA : Hid (Abcd s) := hsl
  have hs : s.size ≤ 10000000 := by omega
  clear F hsl hsz hz
  go_wp2_with fail
  refine (FP.out).mono ?_
  rintro e w1 ⟨⟨k, rfl, hk⟩, rfl⟩
  clear FP
  have F := hid (find_rd rwP s w1 (by decide) hs HT.out)
  go_wp2_with fail
  refine (F.out).mono ?_
  rintro e w2 ⟨k2, h⟩
  clear F
  rw [rwP_e.1, rwP_e.2.1, find_rowP HA.out] at h
  rcases h with ⟨h, _⟩ | ⟨_, va, l, rfl, hE, hl⟩
  · exact absurd rfl h
  obtain ⟨GV, hE1⟩ := hE.plain rfl HA.out.asc hl (rowsF_in s 1 0)
  have E1 := hid hE1
  have K2 := hid k2
  clear hE hl hE1 k2
  have hcv := run_convert_bytes_back (P := Tryz.prog) (w2.alloc (.cells #[.int .u8 (48 + (1 + (k : Int)))] 5)) 35 9 5 ⟨w2.heap.size, 0, none⟩ 1 [(48 + (1 + k)).toUInt8] Tryz.underlying35 Tryz.underlying5 Tryz.underlying9 (fun j hj => by
    obtain rfl : j = 0 := by simpa using hj
    have e : ((48 + (1 + k)).toUInt8.toNat : Int) = 48 + (1 + (k : Int)) := by
      have : k = 0 ∨ k = 1 ∨ k = 2 ∨ k = 3 ∨ k = 4 := by omega
      rcases this with rfl | rfl | rfl | rfl | rfl <;> rfl
    rw [add_at0]
    show _ = some (Value.int .u8 ((48 + (1 + k)).toUInt8.toNat : Int))
    rw [e]
    exact (Blk.new w2 #[.int .u8 (48 + (1 + (k : Int)))] 5).cell 0)
  simp only [List.length_cons, List.length_nil, Nat.zero_add] at hcv
  have hpat := pat_is k hk
  have HPAT := hid hpat
  clear hpat
  have KA : Hid (Kept Nil w1 (w2.alloc (.cells #[.int .u8 (48 + (1 + (k : Int)))] 5))) := K2.out.alloc _
  have E1a : Hid (EvW (w2.alloc (.cells #[.int .u8 (48 + (1 + (k : Int)))] 5)) va (rowsF s 1 0).length (fun k => ((((rowsF s 1 0).getD k (0, 0)).1 : Nat) : Int)) (fun k => ((((rowsF s 1 0).getD k (0, 0)).2 : Nat) : Int)) GV (fun _ => []) (fun k => s.extract ((rowsF s 1 0).getD k (0, 0)).1 ((rowsF s 1 0).getD k (0, 0)).2)) := E1.out.kept ((Kept.refl Nil w2).alloc _)
  have F := hid (find_rd (rwQ (1 + k)) s (w2.alloc (.cells #[.int .u8 (48 + (1 + (k : Int)))] 5)) (by show (9 : Nat) ≤ _; unfold maxLen; omega) hs (HT.out.keptN KA.out))
  clear K2 E1
  go_wp2_with fail
  clear hcv
  rw [HPAT.out]
  refine (F.out).mono ?_
  rintro e w3 ⟨k3, h⟩
  have hq := rwQ_e (1 + k) (by omega) (by omega)
  rw [hq.1, hq.2.1, find_rowQ HA.out (by omega) (by omega)] at h
  rcases h with ⟨h, _⟩ | ⟨_, vb, l2, rfl, hE, hl⟩
  · exact absurd rfl h
  obtain ⟨GV2, hE2⟩ := hE.plain rfl HA.out.asc hl (rowsF_in s (1 + k) 0)
  have E2 := hid hE2
  have E1b := hid (E1a.out.kept k3)
  have K3 : Hid (Kept Nil w1 w3) := KA.out.trans k3
  clear hE hl hE2 k3 F HPAT KA E1a hq
  have F := hid (runs_rd s 1 w3 hs (Nat.le_refl _) (by decide))
  have R1 : Hid ((rowsF s 1 0).length ≤ 100000000) := by have := rowsK_few s 1 (s.size - 0) 0; show (rowsK s 1 (s.size - 0) 0).length ≤ _; omega
  have R2 : Hid ((rowsF s (1 + k) 0).length ≤ 100000000) := by have := rowsK_few s (1 + k) (s.size - 0) 0; show (rowsK s (1 + k) (s.size - 0) 0).length ≤ _; omega
  go_wp2_with fail
  refine (F.out).mono ?_
  rintro e w4 ⟨vr, rfl, hP, k4⟩
  have E1c := hid (E1b.out.kept k4)
  have E2c := hid (E2.out.kept k4)
  have F2 := hid (same_rd true E1c.out hP.evW R1.out (fun _ _ _ => rfl))
  have K4 : Hid (Kept Nil w1 w4) := K3.out.trans k4
  clear F hP k4 E1b E2 E1c K3
  go_wp2_with fail
  refine (F2.out).mono ?_
  rintro e w5 ⟨rfl, k5⟩
  have E2d := hid (E2c.out.kept k5)
  have K5 : Hid (Kept Nil w1 w5) := K4.out.trans k5
  clear F2 k5 E2c K4
  have F := hid (runs_rd s (1 + k) w5 hs (by omega) (by omega))
  have hcast : (((1 + k : Nat)) : Int) = 1 + (k : Int) := by omega
  rw [hcast] at F
  clear hcast
  go_wp2_with fail
  refine (F.out).mono ?_
  rintro e w6 ⟨vr2, rfl, hP, k6⟩
  have E2e := hid (E2d.out.kept k6)
  have F2 := hid (same_rd true E2e.out hP.evW R2.out (fun _ _ _ => rfl))
  have K6 : Hid (Kept Nil w1 w6) := K5.out.trans k6
  clear F hP k6 E2d E2e K5
  go_wp2_with fail
  refine (F2.out).mono ?_
  rintro e w7 ⟨rfl, k7⟩
  have K7 : Hid (Kept Nil w1 w7) := K6.out.trans k7
  clear F2 k7
  go_wp2_with fail
  go_ret
  exact ⟨rfl, K7.out⟩
end Go.Proofs.YtnbfddjaonlmaaaGreatDoor
