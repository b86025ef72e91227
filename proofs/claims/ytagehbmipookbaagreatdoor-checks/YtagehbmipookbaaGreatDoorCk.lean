/- The law Checks: Check's answer is Read's. -/
import Derived.Test.YtagehbmipookbaaGreatDoorRr
import Derived.ProofKit
namespace Go.Proofs.YtagehbmipookbaaGreatDoor
open Go.RowKit Go.Maps
set_option linter.unusedVariables false
set_option maxRecDepth 100000

theorem pick_alike {g : RG} {s : ByteArray} (hg : GOf g s) (hs : s.size ≤ 300) : pick (finFlt g s) = refPick g s := by
  obtain ⟨r1, r2, r3, r4⟩ := broken_rune s
  have htwo := pWhole_two (g := g) (st0 s)
  have hform := form_alike hg.gd (st0 s) rfl r3
  have hfin : (finFlt g s).rune = (st0 s).flt.rune ∧ (finFlt g s).form = formO s.size sc0 (scan s) := by
    unfold finFlt
    split
    · refine ⟨?_, ?_⟩
      · rw [← htwo.1]
        unfold Flt.note
        split
        · rfl
        · rfl
      · rw [← hform]
        unfold Flt.note
        split
        · rfl
        · rfl
    · exact ⟨htwo.1, hform⟩
  unfold refPick
  rw [if_neg (by omega)]
  cases hr : (st0 s).flt.rune with
  | some p =>
    obtain ⟨e, hp⟩ := r1 p hr
    rw [if_pos (by omega), e]
    rw [hr] at hfin
    unfold pick
    rw [hfin.1]
  | none =>
    have e := (r2 hr).1
    rw [if_neg (by omega)]
    rw [hr] at hfin
    cases hf : formO s.size sc0 (scan s) with
    | some q =>
      have hq := formO_pos (by omega) _ _ q hf
      rw [formOf_eq, hf, if_pos (by exact hq)]
      unfold pick
      rw [hfin.1, hfin.2, hf]
      rfl
    | none =>
      rw [formOf_eq, hf, if_neg (by decide)]

/-- a call that leaves old memory as it was: what the statement asks of it, where the arguments lie in no memory -/
theorem post_nil {H : Type} {enc : TypeId × Value → H} {P : Program} {f : Func} {s : ChangeSpec} {apart fresh handsOn again : Bool} {W W' : World} {args : Array Value} {v : Value} {ds gs : List (DataW H)}
    (hW : DataW.Whole enc P f.params.toList s.vars apart W args.toList ds gs [])
    (hres : ∀ (b : Nat) (sp : Nat → Bool) (hd : Bool), DataW.TrodAll enc P W' b sp hd f.resultTypes.toList (v.resultList f.resultTypes.size) (s.fn H (ds ++ gs)).results [])
    (hargs : ∀ sp : Nat → Bool, DataW.TrodAll enc P W' 0 sp true f.params.toList args.toList (s.fn H (ds ++ gs)).args [])
    (hvars : ∀ sp : Nat → Bool, DataW.TrodVars enc P W' sp s.vars (s.fn H (ds ++ gs)).vars [])
    (hk : Kept Nil W W')
    (hok : ∀ (j : Nat) (t : TypeId) (r : Value), f.resultTypes[j]? = some t → (v.resultList f.resultTypes.size)[j]? = some r → Value.okWide P W' .any 0 t r) :
    s.post enc P f apart fresh handsOn again W args v W' := by
  refine ⟨ds, gs, [], [], [], [], hW, hres _ _ _, hargs _, hvars _, (hk.below (Nat.le_refl _) (fun _ _ h => h)).frame _, fun _ => ?_⟩
  refine ⟨hok, _, _, [], ⟨[], [], Go.ChangeShapes.trodAll_append (hargs _) (hres _ _ _), hvars _, rfl, fun b off hp => ?_, fun _ => ?_⟩, fun p hp _ => ?_⟩
  · simp at hp
  · exact List.nodup_nil
  · simp at hp

theorem num_any (x : Int) (w : World) : Calls Tryz.prog 7 #[.int .i64 x] w fun e w' => e = .returned (.int .i64 x) ∧ w' = w := by
  go_enter Tryz.func7, Tryz.ntmps7
  go_wp2_with fail
  go_ret
  exact ⟨rfl, rfl⟩

/-- Check of a text that is not too long -/
theorem check_short (s : ByteArray) (w : World) (hs : s.size ≤ 300) : Calls Tryz.prog 5 #[.string s] w fun e w' => ∃ g, GOf g s ∧ e = .returned (.tuple #[.int .i64 (refPick g s).1, .int .i64 (refPick g s).2]) ∧ Kept Nil w w' := by
  go_enter Tryz.func5, Tryz.ntmps5
  go_wp2_with fail
  refine (read_short s w hs).mono ?_
  rintro e w1 ⟨g, q, x, y, st, hr, hp, rfl, hk, _, _⟩
  have hg : GOf g s := ⟨hr, hp⟩
  have ha := pick_alike hg hs
  rw [ha]
  simp only [patVal, patCells]
  go_wp2_with fail
  go_ret2
  exact ⟨g, hg, rfl, hk.alloc _⟩
/-- Check of a text that is too long -/
theorem check_long (s : ByteArray) (w : World) (hs : 300 < s.size) (hm : s.size ≤ maxLen) : Calls Tryz.prog 5 #[.string s] w fun e w' => e = .returned (.tuple #[.int .i64 1, .int .i64 0]) ∧ Kept Nil w w' := by
  go_enter Tryz.func5, Tryz.ntmps5
  go_wp2_with fail
  refine (read_long s w hs hm).mono ?_
  rintro e w1 ⟨rfl, hk⟩
  simp only [patVal, patCells, zeroNv]
  go_wp2_with fail
  go_ret2
  exact ⟨rfl, hk.alloc _⟩

/-- the law's walk -/
theorem checks_walk (s : ByteArray) (w : World) (hm : s.size ≤ maxLen) : Calls Tryz.prog 3 #[.string s] w fun e w' => e = .returned (.bool true) ∧ Kept Nil w w' := by
  by_cases hs : s.size ≤ 300
  · go_enter Tryz.func3, Tryz.ntmps3
    go_wp2_with fail
    refine (check_short s w hs).mono ?_
    rintro e w1 ⟨g, hg, rfl, hk1⟩
    go_wp2_with fail
    refine (Read_short s w1 g hg hs).mono ?_
    rintro e w2 ⟨v1, v2, rfl, hk2, _, _⟩
    go_wp2_with fail
    refine (num_any _ _).mono ?_
    rintro e w3 ⟨rfl, rfl⟩
    go_wp2_with fail
    go_ret
    exact ⟨rfl, hk1.trans hk2⟩
  · go_enter Tryz.func3, Tryz.ntmps3
    go_wp2_with fail
    refine (check_long s w (by omega) hm).mono ?_
    rintro e w1 ⟨rfl, hk1⟩
    go_wp2_with fail
    refine (Read_long s w1 (by omega) hm).mono ?_
    rintro e w2 ⟨rfl, hk2⟩
    go_wp2_with fail
    refine (num_any _ _).mono ?_
    rintro e w3 ⟨rfl, rfl⟩
    go_wp2_with fail
    go_ret
    exact ⟨rfl, hk1.trans hk2⟩
end Go.Proofs.YtagehbmipookbaaGreatDoor
