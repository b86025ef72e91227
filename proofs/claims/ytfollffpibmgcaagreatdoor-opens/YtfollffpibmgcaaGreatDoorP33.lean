/- The reference: Scan: takes. -/
import Derived.Test.YtfollffpibmgcaaGreatDoorP32
namespace Go.Proofs.YtfollffpibmgcaaGreatDoor
open Go.RowKit
set_option linter.unusedVariables false
set_option maxRecDepth 100000
def scStep (c : Sc) (r : Int) : Option Sc :=
 match c.m with
 | .begin | .more => scAtom c r
 | .open_ => if r == 63 then some { c with m := .query } else scAtom c r
 | .query | .colon | .name => scBracket c r
 | .escape => if inSet kMarks r || inSet kCtlAll r then some { c with m := .times } else none
 | .low | .high => scCounts c r
 | .times => if r == 42 then some { c with m := .lazy } else if r == 43 then some { c with m := .lazy } else if r == 63 then some { c with m := .lazy } else if r == 123 then some { c with m := .low, n := 0, z := false } else scAtom c r
 | .lazy => if r == 63 then some { c with m := .more } else scAtom c r
 | _ => scClass c r
theorem takes_begin {w : World} {b : Nat} {o n : Int} {z : Bool} (hS : ScAt w b ⟨.begin, o, n, z⟩) (r : Int) (ho : -1000 ≤ o ∧ o ≤ 1000) :
  Calls Tryz.prog 44 #[.pointer (some ⟨b, 0, none⟩), .int .i64 r] w (ScPost b (scStep ⟨.begin, o, n, z⟩ r) w) := by
 have c0 : w.cell? ⟨b, 0, none⟩ = some (.string ⟨#[98, 101, 103, 105, 110]⟩) := hS.cell 0
 have f0 : w.frozen? ⟨b, 0, none⟩ = false := hS.frozen 0
 go_enter Tryz.func44, Tryz.ntmps44
 go_wp2_with (go_at_call 68; refine (atom_sc hS _ ho).mono ?_; rintro e w1 hp; obtain ⟨he, hk1, hs1⟩ := hp; rw [he]; clear he)
 all_goals go_ret
 all_goals go_light
 ·have e : scStep ⟨.begin, o, n, z⟩ r = scAtom ⟨.begin, o, n, z⟩ r := by simp [scStep, *]
  rw [e]
  exact ⟨rfl, hk1, hs1⟩
theorem takes_more {w : World} {b : Nat} {o n : Int} {z : Bool} (hS : ScAt w b ⟨.more, o, n, z⟩) (r : Int) (ho : -1000 ≤ o ∧ o ≤ 1000) :
  Calls Tryz.prog 44 #[.pointer (some ⟨b, 0, none⟩), .int .i64 r] w (ScPost b (scStep ⟨.more, o, n, z⟩ r) w) := by
 have c0 : w.cell? ⟨b, 0, none⟩ = some (.string ⟨#[109, 111, 114, 101]⟩) := hS.cell 0
 have f0 : w.frozen? ⟨b, 0, none⟩ = false := hS.frozen 0
 go_enter Tryz.func44, Tryz.ntmps44
 go_wp2_with (go_at_call 68; refine (atom_sc hS _ ho).mono ?_; rintro e w1 hp; obtain ⟨he, hk1, hs1⟩ := hp; rw [he]; clear he)
 all_goals go_ret
 all_goals go_light
 ·have e : scStep ⟨.more, o, n, z⟩ r = scAtom ⟨.more, o, n, z⟩ r := by simp [scStep, *]
  rw [e]
  exact ⟨rfl, hk1, hs1⟩
theorem takes_open_ {w : World} {b : Nat} {o n : Int} {z : Bool} (hS : ScAt w b ⟨.open_, o, n, z⟩) (r : Int) (ho : -1000 ≤ o ∧ o ≤ 1000) :
  Calls Tryz.prog 44 #[.pointer (some ⟨b, 0, none⟩), .int .i64 r] w (ScPost b (scStep ⟨.open_, o, n, z⟩ r) w) := by
 have c0 : w.cell? ⟨b, 0, none⟩ = some (.string ⟨#[111, 112, 101, 110]⟩) := hS.cell 0
 have f0 : w.frozen? ⟨b, 0, none⟩ = false := hS.frozen 0
 go_enter Tryz.func44, Tryz.ntmps44
 go_wp2_with (go_at_call 68; refine (atom_sc hS _ ho).mono ?_; rintro e w1 hp; obtain ⟨he, hk1, hs1⟩ := hp; rw [he]; clear he)
 all_goals go_ret
 all_goals go_light
 ·exact scp_some (c' := ⟨.query, o, n, z⟩) (by simp [scStep, *]) (kept_set 0 _) (hS.setCell 0 _)
 ·have e : scStep ⟨.open_, o, n, z⟩ r = scAtom ⟨.open_, o, n, z⟩ r := by simp [scStep, *]
  rw [e]
  exact ⟨rfl, hk1, hs1⟩
theorem takes_query {w : World} {b : Nat} {o n : Int} {z : Bool} (hS : ScAt w b ⟨.query, o, n, z⟩) (r : Int) (ho : -1000 ≤ o ∧ o ≤ 1000) :
  Calls Tryz.prog 44 #[.pointer (some ⟨b, 0, none⟩), .int .i64 r] w (ScPost b (scStep ⟨.query, o, n, z⟩ r) w) := by
 have c0 : w.cell? ⟨b, 0, none⟩ = some (.string ⟨#[113, 117, 101, 114, 121]⟩) := hS.cell 0
 have f0 : w.frozen? ⟨b, 0, none⟩ = false := hS.frozen 0
 go_enter Tryz.func44, Tryz.ntmps44
 go_wp2_with (go_at_call 69; refine (bracket_query hS _).mono ?_; rintro e w1 hp; obtain ⟨he, hk1, hs1⟩ := hp; rw [he]; clear he)
 all_goals go_ret
 all_goals go_light
 ·have e : scStep ⟨.query, o, n, z⟩ r = scBracket ⟨.query, o, n, z⟩ r := by simp [scStep, *]
  rw [e]
  exact ⟨rfl, hk1, hs1⟩
theorem takes_colon {w : World} {b : Nat} {o n : Int} {z : Bool} (hS : ScAt w b ⟨.colon, o, n, z⟩) (r : Int) (ho : -1000 ≤ o ∧ o ≤ 1000) :
  Calls Tryz.prog 44 #[.pointer (some ⟨b, 0, none⟩), .int .i64 r] w (ScPost b (scStep ⟨.colon, o, n, z⟩ r) w) := by
 have c0 : w.cell? ⟨b, 0, none⟩ = some (.string ⟨#[99, 111, 108, 111, 110]⟩) := hS.cell 0
 have f0 : w.frozen? ⟨b, 0, none⟩ = false := hS.frozen 0
 go_enter Tryz.func44, Tryz.ntmps44
 go_wp2_with (go_at_call 69; refine (bracket_colon hS _).mono ?_; rintro e w1 hp; obtain ⟨he, hk1, hs1⟩ := hp; rw [he]; clear he)
 all_goals go_ret
 all_goals go_light
 ·have e : scStep ⟨.colon, o, n, z⟩ r = scBracket ⟨.colon, o, n, z⟩ r := by simp [scStep, *]
  rw [e]
  exact ⟨rfl, hk1, hs1⟩
theorem takes_name {w : World} {b : Nat} {o n : Int} {z : Bool} (hS : ScAt w b ⟨.name, o, n, z⟩) (r : Int) (ho : -1000 ≤ o ∧ o ≤ 1000) (hn : 0 ≤ n ∧ n ≤ 100) :
  Calls Tryz.prog 44 #[.pointer (some ⟨b, 0, none⟩), .int .i64 r] w (ScPost b (scStep ⟨.name, o, n, z⟩ r) w) := by
 have c0 : w.cell? ⟨b, 0, none⟩ = some (.string ⟨#[110, 97, 109, 101]⟩) := hS.cell 0
 have f0 : w.frozen? ⟨b, 0, none⟩ = false := hS.frozen 0
 go_enter Tryz.func44, Tryz.ntmps44
 go_wp2_with (go_at_call 69; refine (bracket_name hS _ hn).mono ?_; rintro e w1 hp; obtain ⟨he, hk1, hs1⟩ := hp; rw [he]; clear he)
 all_goals go_ret
 all_goals go_light
 ·have e : scStep ⟨.name, o, n, z⟩ r = scBracket ⟨.name, o, n, z⟩ r := by simp [scStep, *]
  rw [e]
  exact ⟨rfl, hk1, hs1⟩
theorem takes_low {w : World} {b : Nat} {o n : Int} {z : Bool} (hS : ScAt w b ⟨.low, o, n, z⟩) (r : Int) (ho : -1000 ≤ o ∧ o ≤ 1000) (hn : 0 ≤ n ∧ n ≤ 2) :
  Calls Tryz.prog 44 #[.pointer (some ⟨b, 0, none⟩), .int .i64 r] w (ScPost b (scStep ⟨.low, o, n, z⟩ r) w) := by
 have c0 : w.cell? ⟨b, 0, none⟩ = some (.string ⟨#[108, 111, 119]⟩) := hS.cell 0
 have f0 : w.frozen? ⟨b, 0, none⟩ = false := hS.frozen 0
 go_enter Tryz.func44, Tryz.ntmps44
 go_wp2_with (go_at_call 71; refine (counts_low hS _ hn).mono ?_; rintro e w1 hp; obtain ⟨he, hk1, hs1⟩ := hp; rw [he]; clear he)
 all_goals go_ret
 all_goals go_light
 ·have e : scStep ⟨.low, o, n, z⟩ r = scCounts ⟨.low, o, n, z⟩ r := by simp [scStep, *]
  rw [e]
  exact ⟨rfl, hk1, hs1⟩
theorem takes_high {w : World} {b : Nat} {o n : Int} {z : Bool} (hS : ScAt w b ⟨.high, o, n, z⟩) (r : Int) (ho : -1000 ≤ o ∧ o ≤ 1000) (hn : 0 ≤ n ∧ n ≤ 2) :
  Calls Tryz.prog 44 #[.pointer (some ⟨b, 0, none⟩), .int .i64 r] w (ScPost b (scStep ⟨.high, o, n, z⟩ r) w) := by
 have c0 : w.cell? ⟨b, 0, none⟩ = some (.string ⟨#[104, 105, 103, 104]⟩) := hS.cell 0
 have f0 : w.frozen? ⟨b, 0, none⟩ = false := hS.frozen 0
 go_enter Tryz.func44, Tryz.ntmps44
 go_wp2_with (go_at_call 71; refine (counts_high hS _ hn).mono ?_; rintro e w1 hp; obtain ⟨he, hk1, hs1⟩ := hp; rw [he]; clear he)
 all_goals go_ret
 all_goals go_light
 ·have e : scStep ⟨.high, o, n, z⟩ r = scCounts ⟨.high, o, n, z⟩ r := by simp [scStep, *]
  rw [e]
  exact ⟨rfl, hk1, hs1⟩
theorem takes_times {w : World} {b : Nat} {o n : Int} {z : Bool} (hS : ScAt w b ⟨.times, o, n, z⟩) (r : Int) (ho : -1000 ≤ o ∧ o ≤ 1000) :
  Calls Tryz.prog 44 #[.pointer (some ⟨b, 0, none⟩), .int .i64 r] w (ScPost b (scStep ⟨.times, o, n, z⟩ r) w) := by
 have c0 : w.cell? ⟨b, 0, none⟩ = some (.string ⟨#[116, 105, 109, 101, 115]⟩) := hS.cell 0
 have f0 : w.frozen? ⟨b, 0, none⟩ = false := hS.frozen 0
 have c2 : w.cell? ⟨b, 2, none⟩ = some (.int .i64 n) := hS.cell 2
 have f2 : w.frozen? ⟨b, 2, none⟩ = false := hS.frozen 2
 have c3 : w.cell? ⟨b, 3, none⟩ = some (.bool z) := hS.cell 3
 have f3 : w.frozen? ⟨b, 3, none⟩ = false := hS.frozen 3
 go_enter Tryz.func44, Tryz.ntmps44
 go_wp2_with (go_at_call 68; refine (atom_sc hS _ ho).mono ?_; rintro e w1 hp; obtain ⟨he, hk1, hs1⟩ := hp; rw [he]; clear he)
 all_goals go_ret
 all_goals go_light
 ·exact scp_some (c' := ⟨.lazy, o, n, z⟩) (by simp [scStep, *]) (kept_set 0 _) (hS.setCell 0 _)
 ·exact scp_some (c' := ⟨.lazy, o, n, z⟩) (by simp [scStep, *]) (kept_set 0 _) (hS.setCell 0 _)
 ·exact scp_some (c' := ⟨.lazy, o, n, z⟩) (by simp [scStep, *]) (kept_set 0 _) (hS.setCell 0 _)
 ·exact scp_some (c' := ⟨.low, o, 0, false⟩) (by simp [scStep, *]) (((kept_set 0 _).trans (kept_set 2 _)).trans (kept_set 3 _)) (((hS.setCell 0 _).setCell 2 _).setCell 3 _)
 ·have e : scStep ⟨.times, o, n, z⟩ r = scAtom ⟨.times, o, n, z⟩ r := by simp [scStep, *]
  rw [e]
  exact ⟨rfl, hk1, hs1⟩
theorem takes_lazy {w : World} {b : Nat} {o n : Int} {z : Bool} (hS : ScAt w b ⟨.lazy, o, n, z⟩) (r : Int) (ho : -1000 ≤ o ∧ o ≤ 1000) :
  Calls Tryz.prog 44 #[.pointer (some ⟨b, 0, none⟩), .int .i64 r] w (ScPost b (scStep ⟨.lazy, o, n, z⟩ r) w) := by
 have c0 : w.cell? ⟨b, 0, none⟩ = some (.string ⟨#[108, 97, 122, 121]⟩) := hS.cell 0
 have f0 : w.frozen? ⟨b, 0, none⟩ = false := hS.frozen 0
 go_enter Tryz.func44, Tryz.ntmps44
 go_wp2_with (go_at_call 68; refine (atom_sc hS _ ho).mono ?_; rintro e w1 hp; obtain ⟨he, hk1, hs1⟩ := hp; rw [he]; clear he)
 all_goals go_ret
 all_goals go_light
 ·exact scp_some (c' := ⟨.more, o, n, z⟩) (by simp [scStep, *]) (kept_set 0 _) (hS.setCell 0 _)
 ·have e : scStep ⟨.lazy, o, n, z⟩ r = scAtom ⟨.lazy, o, n, z⟩ r := by simp [scStep, *]
  rw [e]
  exact ⟨rfl, hk1, hs1⟩
theorem takes_class_ {w : World} {b : Nat} {o n : Int} {z : Bool} (hS : ScAt w b ⟨.class_, o, n, z⟩) (r : Int) (ho : -1000 ≤ o ∧ o ≤ 1000) :
  Calls Tryz.prog 44 #[.pointer (some ⟨b, 0, none⟩), .int .i64 r] w (ScPost b (scStep ⟨.class_, o, n, z⟩ r) w) := by
 have c0 : w.cell? ⟨b, 0, none⟩ = some (.string ⟨#[99, 108, 97, 115, 115]⟩) := hS.cell 0
 have f0 : w.frozen? ⟨b, 0, none⟩ = false := hS.frozen 0
 go_enter Tryz.func44, Tryz.ntmps44
 go_wp2_with (go_at_call 72; refine (class_class_ hS _).mono ?_; rintro e w1 hp; obtain ⟨he, hk1, hs1⟩ := hp; rw [he]; clear he)
 all_goals go_ret
 all_goals go_light
 ·have e : scStep ⟨.class_, o, n, z⟩ r = scClass ⟨.class_, o, n, z⟩ r := by simp [scStep, *]
  rw [e]
  exact ⟨rfl, hk1, hs1⟩
theorem takes_first {w : World} {b : Nat} {o n : Int} {z : Bool} (hS : ScAt w b ⟨.first, o, n, z⟩) (r : Int) (ho : -1000 ≤ o ∧ o ≤ 1000) :
  Calls Tryz.prog 44 #[.pointer (some ⟨b, 0, none⟩), .int .i64 r] w (ScPost b (scStep ⟨.first, o, n, z⟩ r) w) := by
 have c0 : w.cell? ⟨b, 0, none⟩ = some (.string ⟨#[102, 105, 114, 115, 116]⟩) := hS.cell 0
 have f0 : w.frozen? ⟨b, 0, none⟩ = false := hS.frozen 0
 go_enter Tryz.func44, Tryz.ntmps44
 go_wp2_with (go_at_call 72; refine (class_first hS _).mono ?_; rintro e w1 hp; obtain ⟨he, hk1, hs1⟩ := hp; rw [he]; clear he)
 all_goals go_ret
 all_goals go_light
 ·have e : scStep ⟨.first, o, n, z⟩ r = scClass ⟨.first, o, n, z⟩ r := by simp [scStep, *]
  rw [e]
  exact ⟨rfl, hk1, hs1⟩
theorem takes_items {w : World} {b : Nat} {o n : Int} {z : Bool} (hS : ScAt w b ⟨.items, o, n, z⟩) (r : Int) (ho : -1000 ≤ o ∧ o ≤ 1000) :
  Calls Tryz.prog 44 #[.pointer (some ⟨b, 0, none⟩), .int .i64 r] w (ScPost b (scStep ⟨.items, o, n, z⟩ r) w) := by
 have c0 : w.cell? ⟨b, 0, none⟩ = some (.string ⟨#[105, 116, 101, 109, 115]⟩) := hS.cell 0
 have f0 : w.frozen? ⟨b, 0, none⟩ = false := hS.frozen 0
 go_enter Tryz.func44, Tryz.ntmps44
 go_wp2_with (go_at_call 72; refine (class_items hS _).mono ?_; rintro e w1 hp; obtain ⟨he, hk1, hs1⟩ := hp; rw [he]; clear he)
 all_goals go_ret
 all_goals go_light
 ·have e : scStep ⟨.items, o, n, z⟩ r = scClass ⟨.items, o, n, z⟩ r := by simp [scStep, *]
  rw [e]
  exact ⟨rfl, hk1, hs1⟩
theorem takes_one {w : World} {b : Nat} {o n : Int} {z : Bool} (hS : ScAt w b ⟨.one, o, n, z⟩) (r : Int) (ho : -1000 ≤ o ∧ o ≤ 1000) :
  Calls Tryz.prog 44 #[.pointer (some ⟨b, 0, none⟩), .int .i64 r] w (ScPost b (scStep ⟨.one, o, n, z⟩ r) w) := by
 have c0 : w.cell? ⟨b, 0, none⟩ = some (.string ⟨#[111, 110, 101]⟩) := hS.cell 0
 have f0 : w.frozen? ⟨b, 0, none⟩ = false := hS.frozen 0
 go_enter Tryz.func44, Tryz.ntmps44
 go_wp2_with (go_at_call 72; refine (class_one hS _).mono ?_; rintro e w1 hp; obtain ⟨he, hk1, hs1⟩ := hp; rw [he]; clear he)
 all_goals go_ret
 all_goals go_light
 ·have e : scStep ⟨.one, o, n, z⟩ r = scClass ⟨.one, o, n, z⟩ r := by simp [scStep, *]
  rw [e]
  exact ⟨rfl, hk1, hs1⟩
theorem takes_upto {w : World} {b : Nat} {o n : Int} {z : Bool} (hS : ScAt w b ⟨.upto, o, n, z⟩) (r : Int) (ho : -1000 ≤ o ∧ o ≤ 1000) :
  Calls Tryz.prog 44 #[.pointer (some ⟨b, 0, none⟩), .int .i64 r] w (ScPost b (scStep ⟨.upto, o, n, z⟩ r) w) := by
 have c0 : w.cell? ⟨b, 0, none⟩ = some (.string ⟨#[117, 112, 116, 111]⟩) := hS.cell 0
 have f0 : w.frozen? ⟨b, 0, none⟩ = false := hS.frozen 0
 go_enter Tryz.func44, Tryz.ntmps44
 go_wp2_with (go_at_call 72; refine (class_upto hS _).mono ?_; rintro e w1 hp; obtain ⟨he, hk1, hs1⟩ := hp; rw [he]; clear he)
 all_goals go_ret
 all_goals go_light
 ·have e : scStep ⟨.upto, o, n, z⟩ r = scClass ⟨.upto, o, n, z⟩ r := by simp [scStep, *]
  rw [e]
  exact ⟨rfl, hk1, hs1⟩
theorem takes_upescape {w : World} {b : Nat} {o n : Int} {z : Bool} (hS : ScAt w b ⟨.upescape, o, n, z⟩) (r : Int) (ho : -1000 ≤ o ∧ o ≤ 1000) :
  Calls Tryz.prog 44 #[.pointer (some ⟨b, 0, none⟩), .int .i64 r] w (ScPost b (scStep ⟨.upescape, o, n, z⟩ r) w) := by
 have c0 : w.cell? ⟨b, 0, none⟩ = some (.string ⟨#[117, 112, 101, 115, 99, 97, 112, 101]⟩) := hS.cell 0
 have f0 : w.frozen? ⟨b, 0, none⟩ = false := hS.frozen 0
 go_enter Tryz.func44, Tryz.ntmps44
 go_wp2_with (go_at_call 72; refine (class_upescape hS _).mono ?_; rintro e w1 hp; obtain ⟨he, hk1, hs1⟩ := hp; rw [he]; clear he)
 all_goals go_ret
 all_goals go_light
 ·have e : scStep ⟨.upescape, o, n, z⟩ r = scClass ⟨.upescape, o, n, z⟩ r := by simp [scStep, *]
  rw [e]
  exact ⟨rfl, hk1, hs1⟩
theorem takes_escape1 {w : World} {b : Nat} {o n : Int} {z : Bool} (hS : ScAt w b ⟨.escape1, o, n, z⟩) (r : Int) (ho : -1000 ≤ o ∧ o ≤ 1000) :
  Calls Tryz.prog 44 #[.pointer (some ⟨b, 0, none⟩), .int .i64 r] w (ScPost b (scStep ⟨.escape1, o, n, z⟩ r) w) := by
 have c0 : w.cell? ⟨b, 0, none⟩ = some (.string ⟨#[101, 115, 99, 97, 112, 101, 49]⟩) := hS.cell 0
 have f0 : w.frozen? ⟨b, 0, none⟩ = false := hS.frozen 0
 go_enter Tryz.func44, Tryz.ntmps44
 go_wp2_with (go_at_call 72; refine (class_escape1 hS _).mono ?_; rintro e w1 hp; obtain ⟨he, hk1, hs1⟩ := hp; rw [he]; clear he)
 all_goals go_ret
 all_goals go_light
 ·have e : scStep ⟨.escape1, o, n, z⟩ r = scClass ⟨.escape1, o, n, z⟩ r := by simp [scStep, *]
  rw [e]
  exact ⟨rfl, hk1, hs1⟩
theorem takes_escape {w : World} {b : Nat} {o n : Int} {z : Bool} (hS : ScAt w b ⟨.escape, o, n, z⟩) (r : Int) (ho : -1000 ≤ o ∧ o ≤ 1000) :
  Calls Tryz.prog 44 #[.pointer (some ⟨b, 0, none⟩), .int .i64 r] w (ScPost b (scStep ⟨.escape, o, n, z⟩ r) w) := by
 have c0 : w.cell? ⟨b, 0, none⟩ = some (.string ⟨#[101, 115, 99, 97, 112, 101]⟩) := hS.cell 0
 have f0 : w.frozen? ⟨b, 0, none⟩ = false := hS.frozen 0
 cases hm : inSet kMarks r
 ·go_enter Tryz.func44, Tryz.ntmps44
  go_wp2_with fail
  refine (amongL _ kMarks _ _ (by rfl) (by decide)).mono ?_
  rintro e w1 ⟨rfl, rfl⟩
  rw [hm]
  go_wp2_with fail
  refine (amongL _ kCtlAll _ _ (by rfl) (by decide)).mono ?_
  rintro e w1 ⟨rfl, rfl⟩
  go_wp2_with fail
  go_ret
  exact scp_bool (p := inSet kCtlAll r) (c' := ⟨.times, o, n, z⟩) (by cases hk : inSet kCtlAll r <;> simp [scStep, hm, hk]) (kept_set 0 _) (hS.setCell 0 _)
 ·go_enter Tryz.func44, Tryz.ntmps44
  go_wp2_with fail
  refine (amongL _ kMarks _ _ (by rfl) (by decide)).mono ?_
  rintro e w1 ⟨rfl, rfl⟩
  rw [hm]
  go_wp2_with fail
  go_ret
  exact scp_some (c' := ⟨.times, o, n, z⟩) (by simp [scStep, hm]) (kept_set 0 _) (hS.setCell 0 _)
def Sc.inv (c : Sc) (i : Int) : Prop := 0 ≤ c.o ∧ c.o ≤ i ∧ 0 ≤ c.n ∧ c.n ≤ 8 ∧ ((c.m = .low ∨ c.m = .high) → c.n ≤ 2)
theorem takes_any {w : World} {b : Nat} {c : Sc} (hS : ScAt w b c) (r i : Int) (hi : i ≤ 1000) (hc : c.inv i) :
  Calls Tryz.prog 44 #[.pointer (some ⟨b, 0, none⟩), .int .i64 r] w (ScPost b (scStep c r) w) := by
 obtain ⟨m, o, n, z⟩ := c
 obtain ⟨h1, h2, h3, h4, h5⟩ := hc
 simp only at h1 h2 h3 h4 h5
 have ho : -1000 ≤ o ∧ o ≤ 1000 := by omega
 cases m
 ·exact takes_begin hS r ho
 ·exact takes_more hS r ho
 ·exact takes_open_ hS r ho
 ·exact takes_query hS r ho
 ·exact takes_colon hS r ho
 ·exact takes_name hS r ho (by omega)
 ·exact takes_escape hS r ho
 ·exact takes_low hS r ho ⟨h3, h5 (by simp)⟩
 ·exact takes_high hS r ho ⟨h3, h5 (by simp)⟩
 ·exact takes_times hS r ho
 ·exact takes_lazy hS r ho
 ·exact takes_class_ hS r ho
 ·exact takes_first hS r ho
 ·exact takes_items hS r ho
 ·exact takes_one hS r ho
 ·exact takes_upto hS r ho
 ·exact takes_upescape hS r ho
 ·exact takes_escape1 hS r ho
end Go.Proofs.YtfollffpibmgcaaGreatDoor
