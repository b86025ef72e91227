/- The reference: Scan: class. -/
import Derived.Test.YtagehbmipookbaaGreatDoorSc
namespace Go.Proofs.YtagehbmipookbaaGreatDoor
open Go.RowKit
set_option linter.unusedVariables false
set_option maxRecDepth 100000

def scClass (c : Sc) (r : Int) : Option Sc :=
  match c.m with
  | .class_ => if r == 94 then some { c with m := .first } else if r == 93 then none else scItem c r
  | .first => if r == 93 then none else scItem c r
  | .items => if r == 93 then some { c with m := .times } else scItem c r
  | .one => if r == 45 then some { c with m := .upto } else if r == 93 then some { c with m := .times } else scItem c r
  | .upto => if r == 92 then some { c with m := .upescape } else if inSet kClass r then none else some { c with m := .items }
  | .escape1 => if inSet kSets r then some { c with m := .items } else if inSet kMarks r || inSet kCtl r then some { c with m := .one } else none
  | _ => if inSet kMarks r || inSet kCtl r then some { c with m := .items } else none

theorem class_class_ {w : World} {b : Nat} {o n : Int} {z : Bool} (hS : ScAt w b ⟨.class_, o, n, z⟩) (r : Int) :
    Calls Tryz.prog 37 #[.pointer (some ⟨b, 0, none⟩), .int .i64 r] w (ScPost b (scClass ⟨.class_, o, n, z⟩ r) w) := by
  have c0 : w.cell? ⟨b, 0, none⟩ = some (.string ⟨#[99, 108, 97, 115, 115]⟩) := hS.cell 0
  have f0 : w.frozen? ⟨b, 0, none⟩ = false := hS.frozen 0
  go_enter Tryz.func37, Tryz.ntmps37
  go_wp2_with (go_at_call 46; refine (item_sc hS _).mono ?_; rintro e w1 hp; obtain ⟨he, hk1, hs1⟩ := hp; rw [he]; clear he)
  all_goals go_ret
  all_goals go_light
  · exact scp_some (c' := ⟨.first, o, n, z⟩) (by simp [scClass, *]) (kept_set 0 _) (hS.setCell 0 _)
  · exact scp_none (by simp [scClass, *]) (Kept.refl _ _)
  · have e : scClass ⟨.class_, o, n, z⟩ r = scItem ⟨.class_, o, n, z⟩ r := by simp [scClass, *]
    rw [e]
    exact ⟨rfl, hk1, hs1⟩

theorem class_first {w : World} {b : Nat} {o n : Int} {z : Bool} (hS : ScAt w b ⟨.first, o, n, z⟩) (r : Int) :
    Calls Tryz.prog 37 #[.pointer (some ⟨b, 0, none⟩), .int .i64 r] w (ScPost b (scClass ⟨.first, o, n, z⟩ r) w) := by
  have c0 : w.cell? ⟨b, 0, none⟩ = some (.string ⟨#[102, 105, 114, 115, 116]⟩) := hS.cell 0
  have f0 : w.frozen? ⟨b, 0, none⟩ = false := hS.frozen 0
  go_enter Tryz.func37, Tryz.ntmps37
  go_wp2_with (go_at_call 46; refine (item_sc hS _).mono ?_; rintro e w1 hp; obtain ⟨he, hk1, hs1⟩ := hp; rw [he]; clear he)
  all_goals go_ret
  all_goals go_light
  · exact scp_none (by simp [scClass, *]) (Kept.refl _ _)
  · have e : scClass ⟨.first, o, n, z⟩ r = scItem ⟨.first, o, n, z⟩ r := by simp [scClass, *]
    rw [e]
    exact ⟨rfl, hk1, hs1⟩

theorem class_items {w : World} {b : Nat} {o n : Int} {z : Bool} (hS : ScAt w b ⟨.items, o, n, z⟩) (r : Int) :
    Calls Tryz.prog 37 #[.pointer (some ⟨b, 0, none⟩), .int .i64 r] w (ScPost b (scClass ⟨.items, o, n, z⟩ r) w) := by
  have c0 : w.cell? ⟨b, 0, none⟩ = some (.string ⟨#[105, 116, 101, 109, 115]⟩) := hS.cell 0
  have f0 : w.frozen? ⟨b, 0, none⟩ = false := hS.frozen 0
  go_enter Tryz.func37, Tryz.ntmps37
  go_wp2_with (go_at_call 46; refine (item_sc hS _).mono ?_; rintro e w1 hp; obtain ⟨he, hk1, hs1⟩ := hp; rw [he]; clear he)
  all_goals go_ret
  all_goals go_light
  · exact scp_some (c' := ⟨.times, o, n, z⟩) (by simp [scClass, *]) (kept_set 0 _) (hS.setCell 0 _)
  · have e : scClass ⟨.items, o, n, z⟩ r = scItem ⟨.items, o, n, z⟩ r := by simp [scClass, *]
    rw [e]
    exact ⟨rfl, hk1, hs1⟩

theorem class_one {w : World} {b : Nat} {o n : Int} {z : Bool} (hS : ScAt w b ⟨.one, o, n, z⟩) (r : Int) :
    Calls Tryz.prog 37 #[.pointer (some ⟨b, 0, none⟩), .int .i64 r] w (ScPost b (scClass ⟨.one, o, n, z⟩ r) w) := by
  have c0 : w.cell? ⟨b, 0, none⟩ = some (.string ⟨#[111, 110, 101]⟩) := hS.cell 0
  have f0 : w.frozen? ⟨b, 0, none⟩ = false := hS.frozen 0
  go_enter Tryz.func37, Tryz.ntmps37
  go_wp2_with (go_at_call 46; refine (item_sc hS _).mono ?_; rintro e w1 hp; obtain ⟨he, hk1, hs1⟩ := hp; rw [he]; clear he)
  all_goals go_ret
  all_goals go_light
  · exact scp_some (c' := ⟨.upto, o, n, z⟩) (by simp [scClass, *]) (kept_set 0 _) (hS.setCell 0 _)
  · exact scp_some (c' := ⟨.times, o, n, z⟩) (by simp [scClass, *]) (kept_set 0 _) (hS.setCell 0 _)
  · have e : scClass ⟨.one, o, n, z⟩ r = scItem ⟨.one, o, n, z⟩ r := by simp [scClass, *]
    rw [e]
    exact ⟨rfl, hk1, hs1⟩

theorem class_upto {w : World} {b : Nat} {o n : Int} {z : Bool} (hS : ScAt w b ⟨.upto, o, n, z⟩) (r : Int) :
    Calls Tryz.prog 37 #[.pointer (some ⟨b, 0, none⟩), .int .i64 r] w (ScPost b (scClass ⟨.upto, o, n, z⟩ r) w) := by
  have c0 : w.cell? ⟨b, 0, none⟩ = some (.string ⟨#[117, 112, 116, 111]⟩) := hS.cell 0
  have f0 : w.frozen? ⟨b, 0, none⟩ = false := hS.frozen 0
  go_enter Tryz.func37, Tryz.ntmps37
  go_wp2_with (go_at_call 35; refine (amongL _ kClass _ _ (by rfl) (by decide)).mono ?_; rintro e w1 ⟨rfl, rfl⟩)
  all_goals go_ret
  all_goals go_light
  · exact scp_some (c' := ⟨.upescape, o, n, z⟩) (by simp [scClass, *]) (kept_set 0 _) (hS.setCell 0 _)
  · exact scp_bool (p := !inSet kClass r) (c' := ⟨.items, o, n, z⟩) (by cases hk : inSet kClass r <;> simp [scClass, *]) (kept_set 0 _) (hS.setCell 0 _)

theorem class_upescape {w : World} {b : Nat} {o n : Int} {z : Bool} (hS : ScAt w b ⟨.upescape, o, n, z⟩) (r : Int) :
    Calls Tryz.prog 37 #[.pointer (some ⟨b, 0, none⟩), .int .i64 r] w (ScPost b (scClass ⟨.upescape, o, n, z⟩ r) w) := by
  have c0 : w.cell? ⟨b, 0, none⟩ = some (.string ⟨#[117, 112, 101, 115, 99, 97, 112, 101]⟩) := hS.cell 0
  have f0 : w.frozen? ⟨b, 0, none⟩ = false := hS.frozen 0
  cases hm : inSet kMarks r
  · go_enter Tryz.func37, Tryz.ntmps37
    go_wp2_with fail
    refine (amongL _ kMarks _ _ (by rfl) (by decide)).mono ?_
    rintro e w1 ⟨rfl, rfl⟩
    rw [hm]
    go_wp2_with fail
    refine (amongL _ kCtl _ _ (by rfl) (by decide)).mono ?_
    rintro e w1 ⟨rfl, rfl⟩
    go_wp2_with fail
    go_ret
    exact scp_bool (p := inSet kCtl r) (c' := ⟨.items, o, n, z⟩) (by cases hk : inSet kCtl r <;> simp [scClass, hm, hk]) (kept_set 0 _) (hS.setCell 0 _)
  · go_enter Tryz.func37, Tryz.ntmps37
    go_wp2_with fail
    refine (amongL _ kMarks _ _ (by rfl) (by decide)).mono ?_
    rintro e w1 ⟨rfl, rfl⟩
    rw [hm]
    go_wp2_with fail
    go_ret
    exact scp_some (c' := ⟨.items, o, n, z⟩) (by simp [scClass, hm]) (kept_set 0 _) (hS.setCell 0 _)

theorem class_escape1 {w : World} {b : Nat} {o n : Int} {z : Bool} (hS : ScAt w b ⟨.escape1, o, n, z⟩) (r : Int) :
    Calls Tryz.prog 37 #[.pointer (some ⟨b, 0, none⟩), .int .i64 r] w (ScPost b (scClass ⟨.escape1, o, n, z⟩ r) w) := by
  have c0 : w.cell? ⟨b, 0, none⟩ = some (.string ⟨#[101, 115, 99, 97, 112, 101, 49]⟩) := hS.cell 0
  have f0 : w.frozen? ⟨b, 0, none⟩ = false := hS.frozen 0
  cases hd : inSet kSets r
  · cases hm : inSet kMarks r
    · go_enter Tryz.func37, Tryz.ntmps37
      go_wp2_with fail
      refine (amongL _ kSets _ _ (by rfl) (by decide)).mono ?_
      rintro e w1 ⟨rfl, rfl⟩
      rw [hd]
      go_wp2_with fail
      refine (amongL _ kMarks _ _ (by rfl) (by decide)).mono ?_
      rintro e w1 ⟨rfl, rfl⟩
      rw [hm]
      go_wp2_with fail
      refine (amongL _ kCtl _ _ (by rfl) (by decide)).mono ?_
      rintro e w1 ⟨rfl, rfl⟩
      go_wp2_with fail
      go_ret
      exact scp_bool (p := inSet kCtl r) (c' := ⟨.one, o, n, z⟩) (by cases hk : inSet kCtl r <;> simp [scClass, hd, hm, hk]) (kept_set 0 _) (hS.setCell 0 _)
    · go_enter Tryz.func37, Tryz.ntmps37
      go_wp2_with fail
      refine (amongL _ kSets _ _ (by rfl) (by decide)).mono ?_
      rintro e w1 ⟨rfl, rfl⟩
      rw [hd]
      go_wp2_with fail
      refine (amongL _ kMarks _ _ (by rfl) (by decide)).mono ?_
      rintro e w1 ⟨rfl, rfl⟩
      rw [hm]
      go_wp2_with fail
      go_ret
      exact scp_some (c' := ⟨.one, o, n, z⟩) (by simp [scClass, hd, hm]) (kept_set 0 _) (hS.setCell 0 _)
  · go_enter Tryz.func37, Tryz.ntmps37
    go_wp2_with fail
    refine (amongL _ kSets _ _ (by rfl) (by decide)).mono ?_
    rintro e w1 ⟨rfl, rfl⟩
    rw [hd]
    go_wp2_with fail
    go_ret
    exact scp_some (c' := ⟨.items, o, n, z⟩) (by simp [scClass, hd]) (kept_set 0 _) (hS.setCell 0 _)

end Go.Proofs.YtagehbmipookbaaGreatDoor
