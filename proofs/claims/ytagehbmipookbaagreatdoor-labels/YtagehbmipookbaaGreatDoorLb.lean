/- The law Labels: the names that Names tells are the document's. -/
import Derived.Test.YtagehbmipookbaaGreatDoorPn
namespace Go.Proofs.YtagehbmipookbaaGreatDoor
open Go.RowKit Go.Maps
set_option linter.unusedVariables false
set_option maxRecDepth 100000

theorem pick_zero {F : Flt} (h : (pick F).1 = 0) : F.nam = none := by
  unfold pick at h
  repeat' split at h
  all_goals first | assumption | simp at h

theorem fin_nam {g : RG} {s : ByteArray} (h : (pick (finFlt g s)).1 = 0) : (pWhole g (st0 s)).1.flt.nam = none := by
  have hn := pick_zero h
  unfold finFlt at hn
  split at hn
  · unfold Flt.note at hn
    split at hn
    · exact hn
    · exact hn
  · exact hn

/-- Names of a text that is not too long -/
theorem tnames_short (s : ByteArray) (w : World) (hs : s.size ≤ 300) : Calls Tryz.prog 15 #[.string s] w fun e w' => ∃ g, GOf g s ∧ Kept Nil w w' ∧
    (((refPick g s).1 ≠ 0 ∧ e = .returned (.tuple #[.slice none 0 0, .int .i64 (refPick g s).1])) ∨
     ((refPick g s).1 = 0 ∧ ∃ lb, e = .returned (.tuple #[.slice (some ⟨lb, 0, none⟩) (pWhole g (st0 s)).1.groups (pWhole g (st0 s)).1.groups, .int .i64 0]) ∧ lb < w'.heap.size ∧
        Blk w' lb (strs (nameList (pWhole g (st0 s)).1 (fun _ => false))) 9)) := by
  go_enter Tryz.func15, Tryz.ntmps15
  go_wp2_with fail
  refine (read_short s w hs).mono ?_
  rintro e w1 ⟨g, q, x, y, st, hr, hp, rfl, hk, hst, hz⟩
  have hg : GOf g s := ⟨hr, hp⟩
  have ha := pick_alike hg hs
  subst hst
  rw [ha] at hz ⊢
  by_cases h0 : (refPick g s).1 = 0
  · obtain ⟨e1, e2, hR, _, huse⟩ := hz h0
    rw [e1, e2, h0]
    clear e1 e2 hz
    obtain ⟨D, hD, hN⟩ := hR.nm
    have hnum : Nums (pWhole g (st0 s)).1 := pWhole_nums _ ⟨fun p hp => by simp [st0] at hp, by simp [st0]⟩
    have hgr : (pWhole g (st0 s)).1.groups ≤ 300 := by have h1 := hR.groups; have h2 := hR.next; have h3 := hR.len; simp only at h1 h2; omega
    simp only [patVal, patCells]
    go_wp2_with fail
    refine (names_any (q := q) (st := (pWhole g (st0 s)).1) (ownsMap_kept hD ((Kept.refl Nil _).alloc _) (fun h => h)) hN hnum hgr).mono ?_
    rintro e w2 ⟨lb, rfl, hlb, hB, hk2⟩
    go_wp2_with fail
    go_ret2
    exact ⟨g, hg, (hk.alloc _).trans hk2, Or.inr ⟨h0, lb, rfl, hB.lt, hB⟩⟩
  · clear hz
    have HN : Hid ((refPick g s).1 ≠ 0) := h0
    have hb : ((refPick g s).1 == 0) = false := by simpa using h0
    generalize hpk : (refPick g s).1 = z at *
    simp only [patVal, patCells]
    go_wp2_with fail
    go_ret2
    exact ⟨g, hg, hk.alloc _, Or.inl ⟨by rw [hpk]; exact h0, by rw [hpk]; rfl⟩⟩

/-- Names of a text that is too long -/
theorem tnames_long (s : ByteArray) (w : World) (hs : 300 < s.size) (hm : s.size ≤ maxLen) : Calls Tryz.prog 15 #[.string s] w fun e w' => e = .returned (.tuple #[.slice none 0 0, .int .i64 1]) ∧ Kept Nil w w' := by
  go_enter Tryz.func15, Tryz.ntmps15
  go_wp2_with fail
  refine (read_long s w hs hm).mono ?_
  rintro e w1 ⟨rfl, hk⟩
  simp only [patVal, patCells, zeroNv]
  go_wp2_with fail
  go_ret2
  exact ⟨rfl, hk.alloc _⟩

set_option maxRecDepth 100000 in
/-- the law's own comparison -/
theorem named_short (s : ByteArray) (w : World) (hs : s.size ≤ 300) : Calls Tryz.prog 8 #[.string s] w fun e w' => ∃ v, e = .returned (.tuple #[v, .bool true]) ∧ Kept Nil w w' := by
  go_enter Tryz.func8, Tryz.ntmps8
  go_wp2_with fail
  refine (tnames_short s w hs).mono ?_
  rintro e w1 ⟨g, hg, hk1, ⟨h0, rfl⟩ | ⟨h0, lb, rfl, hlt, hB⟩⟩
  · go_wp2_with fail
    refine (Read_short s w1 g hg hs).mono ?_
    rintro e w2 ⟨v1, v2, rfl, hk2, hv, _⟩
    rw [hv h0]
    clear hv h0
    generalize (refPick g s).1 = z
    generalize (refPick g s).2 = z2
    go_wp2_with fail
    refine (num_any _ _).mono ?_
    rintro e w3 ⟨rfl, rfl⟩
    go_wp2_with fail
    go_loopg [10] 0 (fun kk v wr => v = .int .i64 0 ∧ wr = w3)
    case atStart => exact ⟨rfl, rfl⟩
    case round =>
      obtain ⟨rfl, rfl⟩ := hrel
      go_wp2_with fail
      go_ret2
      exact ⟨_, rfl, hk1.trans hk2⟩
  · go_wp2_with fail
    refine (Read_short s w1 g hg hs).mono ?_
    rintro e w2 ⟨v1, v2, rfl, hk2, _, hn⟩
    obtain ⟨nl, lo, _, hlo, hrow, hrel, _, _⟩ := hn h0
    have ha := pick_alike hg hs
    have hnl := names_alike hrel (fin_nam (by rw [ha]; exact h0))
    have hB2 := hB.kept hk2 (fun h => h)
    rw [← hnl] at hB2
    rw [← hrel.1, h0]
    obtain ⟨ao, c, hv⟩ := ownsRow_slice hrow
    rw [hv]
    have hle : nl.length ≤ 9223372036854775807 := by
      rcases hrow.2 with ⟨_, h⟩ | ⟨_, cap, _, _, _, _, h1, h2, _⟩
      · omega
      · unfold maxLen at h2; omega
    clear hn hnl hrel hB ha h0
    generalize (refPick g s).2 = z2
    go_wp2_with fail
    refine (num_any _ _).mono ?_
    rintro e w3 ⟨rfl, rfl⟩
    go_wp2_with fail
    go_loopg [10] nl.length (fun kk v wr => ∃ j : Nat, v = .int .i64 j ∧ j ≤ nl.length ∧ kk = nl.length - j ∧ Kept Nil w3 wr)
    case atStart => exact ⟨0, rfl, by omega, rfl, Kept.refl _ _⟩
    case round =>
      obtain ⟨j, rfl, hjl, rfl, hkr⟩ := hrel
      by_cases hj : j < nl.length
      · obtain ⟨bn, cap, hvb, hcells⟩ := names_cell (ownsRow_kept hrow hkr (fun _ _ h => h)) (by omega)
        have cj := hcells j (.string ⟨(nl[j]).toArray⟩) hj (by simp [List.getElem?_eq_getElem hj])
        have cl : wr.cell? ⟨lb, j, none⟩ = some (.string ⟨(nl[j]).toArray⟩) := by
          rw [(hB2.kept hkr (fun h => h)).cell j]
          unfold strs
          rw [List.getElem?_toArray, List.getElem?_map, List.getElem?_eq_getElem hj]
          rfl
        have hao : ao = some ⟨bn, 0, none⟩ := by rw [hv] at hvb; cases hvb; rfl
        subst hao
        have hjI : (j : Int) < (nl.length : Int) := by omega
        clear hcells hvb
        generalize nl[j] = y at *
        have k9 := hkr.drew
        go_wp2_with fail
        go_region
        go_wp2_with fail
        go_roundg (nl.length - (j + 1))
        case measure => omega
        case rel => exact ⟨j + 1, by go_num, by omega, rfl, k9⟩
      · have hje : j = nl.length := by omega
        subst hje
        go_wp2_with fail
        go_ret2
        exact ⟨_, rfl, (hk1.trans hk2).trans hkr⟩

theorem named_long (s : ByteArray) (w : World) (hs : 300 < s.size) (hm : s.size ≤ maxLen) : Calls Tryz.prog 8 #[.string s] w fun e w' => ∃ v, e = .returned (.tuple #[v, .bool true]) ∧ Kept Nil w w' := by
  go_enter Tryz.func8, Tryz.ntmps8
  go_wp2_with fail
  refine (tnames_long s w hs hm).mono ?_
  rintro e w1 ⟨rfl, hk1⟩
  go_wp2_with fail
  refine (Read_long s w1 hs hm).mono ?_
  rintro e w2 ⟨rfl, hk2⟩
  go_wp2_with fail
  refine (num_any _ _).mono ?_
  rintro e w3 ⟨rfl, rfl⟩
  go_wp2_with fail
  go_loopg [10] 0 (fun kk v wr => v = .int .i64 0 ∧ wr = w3)
  case atStart => exact ⟨rfl, rfl⟩
  case round =>
    obtain ⟨rfl, rfl⟩ := hrel
    go_wp2_with fail
    go_ret2
    exact ⟨_, rfl, hk1.trans hk2⟩

/-- the law's walk -/
theorem labels_walk (s : ByteArray) (w : World) (hm : s.size ≤ maxLen) : Calls Tryz.prog 4 #[.string s] w fun e w' => e = .returned (.bool true) ∧ Kept Nil w w' := by
  have hc : Calls Tryz.prog 8 #[.string s] w fun e w' => ∃ v, e = .returned (.tuple #[v, .bool true]) ∧ Kept Nil w w' := by
    by_cases hs : s.size ≤ 300
    · exact named_short s w hs
    · exact named_long s w (by omega) hm
  go_enter Tryz.func4, Tryz.ntmps4
  go_wp2_with fail
  refine hc.mono ?_
  rintro e w1 ⟨v, rfl, hk⟩
  go_wp2_with fail
  go_ret
  exact ⟨rfl, hk⟩
end Go.Proofs.YtagehbmipookbaaGreatDoor
