/- The reference: Scan: what may stand at a rune of a pattern: item, class, bracket, counts, atom, takes. The reference: Scan: class. -/
import Derived.Test.YtfollffpibmgcaaGreatDoorP31
import Derived.Test.YtfollffpibmgcaaGreatDoorP01
import Derived.Deep.Light
set_option linter.unusedVariables false
set_option maxRecDepth 100000
namespace Go.Proofs.YtfollffpibmgcaaGreatDoor
open Go.RowKit
inductive M where
 | begin | more | open_ | query | colon | name | escape | low | high | times | lazy | class_ | first | items | one | upto | upescape | escape1
def M.str : M → ByteArray
 | .begin => ⟨#[98, 101, 103, 105, 110]⟩
 | .more => ⟨#[109, 111, 114, 101]⟩
 | .open_ => ⟨#[111, 112, 101, 110]⟩
 | .query => ⟨#[113, 117, 101, 114, 121]⟩
 | .colon => ⟨#[99, 111, 108, 111, 110]⟩
 | .name => ⟨#[110, 97, 109, 101]⟩
 | .escape => ⟨#[101, 115, 99, 97, 112, 101]⟩
 | .low => ⟨#[108, 111, 119]⟩
 | .high => ⟨#[104, 105, 103, 104]⟩
 | .times => ⟨#[116, 105, 109, 101, 115]⟩
 | .lazy => ⟨#[108, 97, 122, 121]⟩
 | .class_ => ⟨#[99, 108, 97, 115, 115]⟩
 | .first => ⟨#[102, 105, 114, 115, 116]⟩
 | .items => ⟨#[105, 116, 101, 109, 115]⟩
 | .one => ⟨#[111, 110, 101]⟩
 | .upto => ⟨#[117, 112, 116, 111]⟩
 | .upescape => ⟨#[117, 112, 101, 115, 99, 97, 112, 101]⟩
 | .escape1 => ⟨#[101, 115, 99, 97, 112, 101, 49]⟩
structure Sc where
 m : M
 o : Int
 n : Int
 z : Bool
def kClass : List UInt8 := [91, 93, 94, 45]
def kMarks : List UInt8 := [46, 94, 36, 124, 63, 42, 43, 40, 41, 91, 93, 123, 125, 45, 47, 92]
def kSpecial : List UInt8 := [92, 46, 94, 36, 124, 63, 42, 43, 40, 41, 91, 123]
def kSets : List UInt8 := [100, 119, 115]
def kCtl : List UInt8 := [110, 116, 114]
def kCtlAll : List UInt8 := [110, 116, 114, 100, 68, 119, 87, 115, 83, 98, 66]
def scItem (c : Sc) (r : Int) : Option Sc := if r = 92 then some { c with m := .escape1 } else if inSet kClass r then none else some { c with m := .one }
def ScAt (w : World) (b : Nat) (c : Sc) : Prop := Blk w b #[.string c.m.str, .int .i64 c.o, .int .i64 c.n, .bool c.z] 120
def ScPost (b : Nat) (x : Option Sc) (w : World) (e : Ending) (w' : World) : Prop := e = .returned (.bool x.isSome) ∧ Kept (fun i => i = b) w w' ∧ ∀ c', x = some c' → ScAt w' b c'
theorem scp_some {b : Nat} {x : Option Sc} {c' : Sc} {w w' : World} (hx : x = some c') (hk : Kept (fun i => i = b) w w') (hs : ScAt w' b c') : ScPost b x w (.returned (.bool true)) w' := by
 subst hx; exact ⟨rfl, hk, fun c'' h => by cases h; exact hs⟩
theorem scp_none {b : Nat} {x : Option Sc} {w w' : World} (hx : x = none) (hk : Kept (fun i => i = b) w w') : ScPost b x w (.returned (.bool false)) w' := by
 subst hx; exact ⟨rfl, hk, fun c'' h => by cases h⟩
theorem scp_bool {b : Nat} {x : Option Sc} {c' : Sc} {w w' : World} {p : Bool} (hx : x = if p then some c' else none) (hk : Kept (fun i => i = b) w w') (hs : ScAt w' b c') : ScPost b x w (.returned (.bool p)) w' := by
 cases p
 ·exact scp_none hx hk
 ·exact scp_some hx hk hs
theorem kept_set {w : World} {b : Nat} (i : Nat) (v : Value) : Kept (fun j => j = b) w (w.setCell ⟨b, i, none⟩ v) := (Kept.refl (fun j => j = b) w).setCell (p := ⟨b, i, none⟩) (Or.inl rfl) v
theorem amongL (s : ByteArray) (l : List UInt8) (r : Int) (w : World) (hl : s.data.toList = l) (hs : s.size ≤ 1000) :
  Calls Tryz.prog 70 #[.string s, .int .i64 r] w fun e w' => e = .returned (.bool (inSet l r)) ∧ w' = w := by
 subst hl; exact among_any s r w hs
theorem item_sc {w : World} {b : Nat} {c : Sc} (hS : ScAt w b c) (r : Int) :
  Calls Tryz.prog 99 #[.pointer (some ⟨b, 0, none⟩), .int .i64 r] w (ScPost b (scItem c r) w) := by
 have c0 : w.cell? ⟨b, 0, none⟩ = some (.string c.m.str) := hS.cell 0
 have f0 : w.frozen? ⟨b, 0, none⟩ = false := hS.frozen 0
 unfold scItem
 by_cases h1 : r = 92
 ·have hb : (r == 92) = true := by simp [h1]
  rw [if_pos h1]
  clear h1
  go_enter Tryz.func99, Tryz.ntmps99
  go_wp2_with fail
  go_ret
  exact ⟨rfl, (Kept.refl (fun i => i = b) w).setCell (p := ⟨b, 0, none⟩) (Or.inl rfl) _, fun c' hc => by cases hc; exact hS.setCell 0 _⟩
 ·have hb : (r == 92) = false := by simp [h1]
  rw [if_neg h1]
  cases hk : inSet kClass r
  ·go_enter Tryz.func99, Tryz.ntmps99
   go_wp2_with fail
   refine (amongL _ kClass _ _ (by rfl) (by decide)).mono ?_
   rintro e w1 ⟨rfl, rfl⟩
   rw [hk]
   go_wp2_with fail
   go_ret
   exact ⟨rfl, (Kept.refl (fun i => i = b) w).setCell (p := ⟨b, 0, none⟩) (Or.inl rfl) _, fun c' hc => by cases hc; exact hS.setCell 0 _⟩
  ·go_enter Tryz.func99, Tryz.ntmps99
   go_wp2_with fail
   refine (amongL _ kClass _ _ (by rfl) (by decide)).mono ?_
   rintro e w1 ⟨rfl, rfl⟩
   rw [hk]
   go_wp2_with fail
   go_ret
   exact ⟨rfl, (Kept.refl (fun i => i = b) w).setCell (p := ⟨b, 0, none⟩) (Or.inl rfl) _, fun c' hc => by cases hc⟩
def scAtom (c : Sc) (r : Int) : Option Sc :=
 if r == 124 then some { c with m := .begin }
 else if r == 40 then some { c with m := .open_, o := c.o + 1 }
 else if r == 41 then (if 0 ≤ c.o - 1 then some { c with m := .times, o := c.o - 1 } else none)
 else if r == 91 then some { c with m := .class_ }
 else if r == 92 then some { c with m := .escape }
 else if r == 46 then some { c with m := .times }
 else if r == 94 then some { c with m := .times }
 else if r == 36 then some { c with m := .times }
 else if inSet kSpecial r then none else some { c with m := .times }
theorem atom_sc {w : World} {b : Nat} {c : Sc} (hS : ScAt w b c) (r : Int) (ho : -1000 ≤ c.o ∧ c.o ≤ 1000) :
  Calls Tryz.prog 68 #[.pointer (some ⟨b, 0, none⟩), .int .i64 r] w (ScPost b (scAtom c r) w) := by
 have c0 : w.cell? ⟨b, 0, none⟩ = some (.string c.m.str) := hS.cell 0
 have f0 : w.frozen? ⟨b, 0, none⟩ = false := hS.frozen 0
 have c1 : w.cell? ⟨b, 1, none⟩ = some (.int .i64 c.o) := hS.cell 1
 have f1 : w.frozen? ⟨b, 1, none⟩ = false := hS.frozen 1
 go_enter Tryz.func68, Tryz.ntmps68
 go_wp2_with (go_at_call 70; refine (amongL _ kSpecial _ _ (by rfl) (by decide)).mono ?_; rintro e w1 ⟨rfl, rfl⟩)
 all_goals go_ret
 all_goals go_light
 ·exact scp_some (c' := { c with m := .begin }) (by simp [scAtom, *]) (kept_set 0 _) (hS.setCell 0 _)
 ·exact scp_some (c' := { c with m := .open_, o := c.o + 1 }) (by simp [scAtom, *]) ((kept_set 1 _).trans (kept_set 0 _)) ((hS.setCell 1 _).setCell 0 _)
 ·exact scp_bool (c' := { c with m := .times, o := c.o - 1 }) (by simp [scAtom, *]) ((kept_set 1 _).trans (kept_set 0 _)) ((hS.setCell 1 _).setCell 0 _)
 ·exact scp_some (c' := { c with m := .class_ }) (by simp [scAtom, *]) (kept_set 0 _) (hS.setCell 0 _)
 ·exact scp_some (c' := { c with m := .escape }) (by simp [scAtom, *]) (kept_set 0 _) (hS.setCell 0 _)
 ·exact scp_some (c' := { c with m := .times }) (by simp [scAtom, *]) (kept_set 0 _) (hS.setCell 0 _)
 ·exact scp_some (c' := { c with m := .times }) (by simp [scAtom, *]) (kept_set 0 _) (hS.setCell 0 _)
 ·exact scp_some (c' := { c with m := .times }) (by simp [scAtom, *]) (kept_set 0 _) (hS.setCell 0 _)
 ·exact scp_bool (p := !inSet kSpecial r) (c' := { c with m := .times }) (by cases hk : inSet kSpecial r <;> simp [scAtom, *]) (kept_set 0 _) (hS.setCell 0 _)
def scBracket (c : Sc) (r : Int) : Option Sc :=
 match c.m with
 | .query => if r == 58 then some { c with m := .begin } else if r == 105 then some { c with m := .colon } else if r == 60 then some { c with m := .name, n := 0 } else none
 | .colon => if r == 58 then some { c with m := .begin } else none
 | _ => if smallOf r && decide (c.n < 8) then some { c with n := c.n + 1 } else if r == 62 && decide (0 < c.n) then some { c with m := .begin } else none
theorem digit44 : digitOf 44 = false := by decide
theorem digit125 : digitOf 125 = false := by decide
theorem small62 : smallOf 62 = false := by decide
theorem bracket_query {w : World} {b : Nat} {o n : Int} {z : Bool} (hS : ScAt w b ⟨.query, o, n, z⟩) (r : Int) :
  Calls Tryz.prog 69 #[.pointer (some ⟨b, 0, none⟩), .int .i64 r] w (ScPost b (scBracket ⟨.query, o, n, z⟩ r) w) := by
 have c0 : w.cell? ⟨b, 0, none⟩ = some (.string ⟨#[113, 117, 101, 114, 121]⟩) := hS.cell 0
 have f0 : w.frozen? ⟨b, 0, none⟩ = false := hS.frozen 0
 have c2 : w.cell? ⟨b, 2, none⟩ = some (.int .i64 n) := hS.cell 2
 have f2 : w.frozen? ⟨b, 2, none⟩ = false := hS.frozen 2
 go_enter Tryz.func69, Tryz.ntmps69
 go_wp2_with fail
 all_goals go_ret
 all_goals go_light
 ·exact scp_some (c' := ⟨.begin, o, n, z⟩) (by simp [scBracket, *]) (kept_set 0 _) (hS.setCell 0 _)
 ·exact scp_some (c' := ⟨.colon, o, n, z⟩) (by simp [scBracket, *]) (kept_set 0 _) (hS.setCell 0 _)
 ·exact scp_some (c' := ⟨.name, o, 0, z⟩) (by simp [scBracket, *]) ((kept_set 0 _).trans (kept_set 2 _)) ((hS.setCell 0 _).setCell 2 _)
 ·exact scp_none (by simp [scBracket, *]) (Kept.refl _ _)
theorem bracket_colon {w : World} {b : Nat} {o n : Int} {z : Bool} (hS : ScAt w b ⟨.colon, o, n, z⟩) (r : Int) :
  Calls Tryz.prog 69 #[.pointer (some ⟨b, 0, none⟩), .int .i64 r] w (ScPost b (scBracket ⟨.colon, o, n, z⟩ r) w) := by
 have c0 : w.cell? ⟨b, 0, none⟩ = some (.string ⟨#[99, 111, 108, 111, 110]⟩) := hS.cell 0
 have f0 : w.frozen? ⟨b, 0, none⟩ = false := hS.frozen 0
 go_enter Tryz.func69, Tryz.ntmps69
 go_wp2_with fail
 all_goals go_ret
 all_goals go_light
 all_goals exact scp_bool (p := r == 58) (c' := ⟨.begin, o, n, z⟩) (by cases hb : (r == 58) <;> simp [scBracket, hb]) (kept_set 0 _) (hS.setCell 0 _)
theorem bracket_name {w : World} {b : Nat} {o n : Int} {z : Bool} (hS : ScAt w b ⟨.name, o, n, z⟩) (r : Int) (hn : 0 ≤ n ∧ n ≤ 100) :
  Calls Tryz.prog 69 #[.pointer (some ⟨b, 0, none⟩), .int .i64 r] w (ScPost b (scBracket ⟨.name, o, n, z⟩ r) w) := by
 have c0 : w.cell? ⟨b, 0, none⟩ = some (.string ⟨#[110, 97, 109, 101]⟩) := hS.cell 0
 have f0 : w.frozen? ⟨b, 0, none⟩ = false := hS.frozen 0
 have c2 : w.cell? ⟨b, 2, none⟩ = some (.int .i64 n) := hS.cell 2
 have f2 : w.frozen? ⟨b, 2, none⟩ = false := hS.frozen 2
 go_enter Tryz.func69, Tryz.ntmps69
 go_wp2_with (go_at_call 97; refine (small_any _ _).mono ?_; rintro e w1 ⟨rfl, rfl⟩)
 all_goals go_ret
 all_goals go_light
 ·exact scp_some (c' := ⟨.name, o, n + 1, z⟩) (by simp [scBracket, *]) (kept_set 2 _) (hS.setCell 2 _)
 ·have h8 : ¬ n < 8 := by omega
  exact scp_bool (p := decide (0 < n)) (c' := ⟨.begin, o, n, z⟩) (by simp [scBracket, small62, *]) (kept_set 0 _) (hS.setCell 0 _)
 ·have h8 : ¬ n < 8 := by omega
  exact scp_none (by simp [scBracket, *]) (kept_set 0 _)
 ·exact scp_bool (p := decide (0 < n)) (c' := ⟨.begin, o, n, z⟩) (by simp [scBracket, small62, *]) (kept_set 0 _) (hS.setCell 0 _)
 ·exact scp_none (by simp [scBracket, *]) (kept_set 0 _)
def scCounts (c : Sc) (r : Int) : Option Sc :=
 let first := match c.m with | .low => true | _ => false
 if digitOf r then (if c.n == 2 || (c.n == 1 && c.z) then none else some { c with n := c.n + 1, z := if c.n + 1 == 2 then false else r == 48 })
 else if r == 44 && first && decide (0 < c.n) then some { c with m := .high, n := 0, z := false }
 else if r == 125 && (decide (0 < c.n) || !first) then some { c with m := .lazy }
 else none
theorem counts_low {w : World} {b : Nat} {o n : Int} {z : Bool} (hS : ScAt w b ⟨.low, o, n, z⟩) (r : Int) (hn : 0 ≤ n ∧ n ≤ 2) :
  Calls Tryz.prog 71 #[.pointer (some ⟨b, 0, none⟩), .int .i64 r] w (ScPost b (scCounts ⟨.low, o, n, z⟩ r) w) := by
 have c0 : w.cell? ⟨b, 0, none⟩ = some (.string ⟨#[108, 111, 119]⟩) := hS.cell 0
 have f0 : w.frozen? ⟨b, 0, none⟩ = false := hS.frozen 0
 have c2 : w.cell? ⟨b, 2, none⟩ = some (.int .i64 n) := hS.cell 2
 have f2 : w.frozen? ⟨b, 2, none⟩ = false := hS.frozen 2
 have c3 : w.cell? ⟨b, 3, none⟩ = some (.bool z) := hS.cell 3
 have f3 : w.frozen? ⟨b, 3, none⟩ = false := hS.frozen 3
 go_enter Tryz.func71, Tryz.ntmps71
 go_wp2_with (go_at_call 98; refine (digit_any _ _).mono ?_; rintro e w1 ⟨rfl, rfl⟩)
 all_goals go_ret
 all_goals go_light
 ·exact scp_none (by simp [scCounts, *]) (Kept.refl _ _)
 ·exact scp_none (by simp [scCounts, *]) (Kept.refl _ _)
 ·exact scp_some (c' := ⟨.low, o, 2, false⟩) (by simp [scCounts, *]) (((kept_set 3 _).trans (kept_set 2 _)).trans (kept_set 3 _)) (((hS.setCell 3 _).setCell 2 _).setCell 3 _)
 ·have hn1 : ¬ n + 1 = 2 := by omega
  exact scp_some (c' := ⟨.low, o, n + 1, r == 48⟩) (by simp [scCounts, *]) ((kept_set 3 _).trans (kept_set 2 _)) ((hS.setCell 3 _).setCell 2 _)
 ·exact scp_some (c' := ⟨.high, o, 0, false⟩) (by simp [scCounts, digit44, *]) (((kept_set 0 _).trans (kept_set 2 _)).trans (kept_set 3 _)) (((hS.setCell 0 _).setCell 2 _).setCell 3 _)
 ·have hn0 : ¬ 0 < n := by omega
  exact scp_none (by simp [scCounts, digit44, *]) (Kept.refl _ _)
 ·have hn0 : ¬ 0 < n := by omega
  exact scp_none (by simp [scCounts, digit125, *]) (Kept.refl _ _)
 ·exact scp_some (c' := ⟨.lazy, o, n, z⟩) (by simp [scCounts, digit125, *]) (kept_set 0 _) (hS.setCell 0 _)
 ·exact scp_none (by simp [scCounts, *]) (Kept.refl _ _)
theorem counts_high {w : World} {b : Nat} {o n : Int} {z : Bool} (hS : ScAt w b ⟨.high, o, n, z⟩) (r : Int) (hn : 0 ≤ n ∧ n ≤ 2) :
  Calls Tryz.prog 71 #[.pointer (some ⟨b, 0, none⟩), .int .i64 r] w (ScPost b (scCounts ⟨.high, o, n, z⟩ r) w) := by
 have c0 : w.cell? ⟨b, 0, none⟩ = some (.string ⟨#[104, 105, 103, 104]⟩) := hS.cell 0
 have f0 : w.frozen? ⟨b, 0, none⟩ = false := hS.frozen 0
 have c2 : w.cell? ⟨b, 2, none⟩ = some (.int .i64 n) := hS.cell 2
 have f2 : w.frozen? ⟨b, 2, none⟩ = false := hS.frozen 2
 have c3 : w.cell? ⟨b, 3, none⟩ = some (.bool z) := hS.cell 3
 have f3 : w.frozen? ⟨b, 3, none⟩ = false := hS.frozen 3
 go_enter Tryz.func71, Tryz.ntmps71
 go_wp2_with (go_at_call 98; refine (digit_any _ _).mono ?_; rintro e w1 ⟨rfl, rfl⟩)
 all_goals go_ret
 all_goals go_light
 ·exact scp_none (by simp [scCounts, *]) (Kept.refl _ _)
 ·exact scp_none (by simp [scCounts, *]) (Kept.refl _ _)
 ·exact scp_some (c' := ⟨.high, o, 2, false⟩) (by simp [scCounts, *]) (((kept_set 3 _).trans (kept_set 2 _)).trans (kept_set 3 _)) (((hS.setCell 3 _).setCell 2 _).setCell 3 _)
 ·have hn1 : ¬ n + 1 = 2 := by omega
  exact scp_some (c' := ⟨.high, o, n + 1, r == 48⟩) (by simp [scCounts, *]) ((kept_set 3 _).trans (kept_set 2 _)) ((hS.setCell 3 _).setCell 2 _)
 ·exact scp_none (by simp [scCounts, digit44, *]) (Kept.refl _ _)
 ·exact scp_some (c' := ⟨.lazy, o, n, z⟩) (by simp [scCounts, digit125, *]) (kept_set 0 _) (hS.setCell 0 _)
 ·exact scp_some (c' := ⟨.lazy, o, n, z⟩) (by simp [scCounts, digit125, *]) (kept_set 0 _) (hS.setCell 0 _)
 ·exact scp_none (by simp [scCounts, *]) (Kept.refl _ _)
def scClass (c : Sc) (r : Int) : Option Sc :=
 match c.m with
 | .class_ => if r == 94 then some { c with m := .first } else if r == 93 then none else scItem c r
 | .first => if r == 93 then none else scItem c r
 | .items => if r == 93 then some { c with m := .times } else scItem c r
 | .one => if r == 45 then some { c with m := .upto } else if r == 93 then some { c with m := .times } else scItem c r
 | .upto => if r == 92 then some { c with m := .upescape } else if inSet kClass r then none else some { c with m := .items }
 | .escape1 => if inSet kSets r then some { c with m := .items } else if inSet kMarks r || inSet kCtl r then some { c with m := .one } else none
 | _ => if inSet kMarks r || inSet kCtl r then some { c with m := .items } else none
theorem class_class_ {w : World} {b : Nat} {o n : Int} {z : Bool} (hS : ScAt w b ⟨.class_, o, n, z⟩) (r : Int) :
  Calls Tryz.prog 72 #[.pointer (some ⟨b, 0, none⟩), .int .i64 r] w (ScPost b (scClass ⟨.class_, o, n, z⟩ r) w) := by
 have c0 : w.cell? ⟨b, 0, none⟩ = some (.string ⟨#[99, 108, 97, 115, 115]⟩) := hS.cell 0
 have f0 : w.frozen? ⟨b, 0, none⟩ = false := hS.frozen 0
 go_enter Tryz.func72, Tryz.ntmps72
 go_wp2_with (go_at_call 99; refine (item_sc hS _).mono ?_; rintro e w1 hp; obtain ⟨he, hk1, hs1⟩ := hp; rw [he]; clear he)
 all_goals go_ret
 all_goals go_light
 ·exact scp_some (c' := ⟨.first, o, n, z⟩) (by simp [scClass, *]) (kept_set 0 _) (hS.setCell 0 _)
 ·exact scp_none (by simp [scClass, *]) (Kept.refl _ _)
 ·have e : scClass ⟨.class_, o, n, z⟩ r = scItem ⟨.class_, o, n, z⟩ r := by simp [scClass, *]
  rw [e]
  exact ⟨rfl, hk1, hs1⟩
theorem class_first {w : World} {b : Nat} {o n : Int} {z : Bool} (hS : ScAt w b ⟨.first, o, n, z⟩) (r : Int) :
  Calls Tryz.prog 72 #[.pointer (some ⟨b, 0, none⟩), .int .i64 r] w (ScPost b (scClass ⟨.first, o, n, z⟩ r) w) := by
 have c0 : w.cell? ⟨b, 0, none⟩ = some (.string ⟨#[102, 105, 114, 115, 116]⟩) := hS.cell 0
 have f0 : w.frozen? ⟨b, 0, none⟩ = false := hS.frozen 0
 go_enter Tryz.func72, Tryz.ntmps72
 go_wp2_with (go_at_call 99; refine (item_sc hS _).mono ?_; rintro e w1 hp; obtain ⟨he, hk1, hs1⟩ := hp; rw [he]; clear he)
 all_goals go_ret
 all_goals go_light
 ·exact scp_none (by simp [scClass, *]) (Kept.refl _ _)
 ·have e : scClass ⟨.first, o, n, z⟩ r = scItem ⟨.first, o, n, z⟩ r := by simp [scClass, *]
  rw [e]
  exact ⟨rfl, hk1, hs1⟩
theorem class_items {w : World} {b : Nat} {o n : Int} {z : Bool} (hS : ScAt w b ⟨.items, o, n, z⟩) (r : Int) :
  Calls Tryz.prog 72 #[.pointer (some ⟨b, 0, none⟩), .int .i64 r] w (ScPost b (scClass ⟨.items, o, n, z⟩ r) w) := by
 have c0 : w.cell? ⟨b, 0, none⟩ = some (.string ⟨#[105, 116, 101, 109, 115]⟩) := hS.cell 0
 have f0 : w.frozen? ⟨b, 0, none⟩ = false := hS.frozen 0
 go_enter Tryz.func72, Tryz.ntmps72
 go_wp2_with (go_at_call 99; refine (item_sc hS _).mono ?_; rintro e w1 hp; obtain ⟨he, hk1, hs1⟩ := hp; rw [he]; clear he)
 all_goals go_ret
 all_goals go_light
 ·exact scp_some (c' := ⟨.times, o, n, z⟩) (by simp [scClass, *]) (kept_set 0 _) (hS.setCell 0 _)
 ·have e : scClass ⟨.items, o, n, z⟩ r = scItem ⟨.items, o, n, z⟩ r := by simp [scClass, *]
  rw [e]
  exact ⟨rfl, hk1, hs1⟩
theorem class_one {w : World} {b : Nat} {o n : Int} {z : Bool} (hS : ScAt w b ⟨.one, o, n, z⟩) (r : Int) :
  Calls Tryz.prog 72 #[.pointer (some ⟨b, 0, none⟩), .int .i64 r] w (ScPost b (scClass ⟨.one, o, n, z⟩ r) w) := by
 have c0 : w.cell? ⟨b, 0, none⟩ = some (.string ⟨#[111, 110, 101]⟩) := hS.cell 0
 have f0 : w.frozen? ⟨b, 0, none⟩ = false := hS.frozen 0
 go_enter Tryz.func72, Tryz.ntmps72
 go_wp2_with (go_at_call 99; refine (item_sc hS _).mono ?_; rintro e w1 hp; obtain ⟨he, hk1, hs1⟩ := hp; rw [he]; clear he)
 all_goals go_ret
 all_goals go_light
 ·exact scp_some (c' := ⟨.upto, o, n, z⟩) (by simp [scClass, *]) (kept_set 0 _) (hS.setCell 0 _)
 ·exact scp_some (c' := ⟨.times, o, n, z⟩) (by simp [scClass, *]) (kept_set 0 _) (hS.setCell 0 _)
 ·have e : scClass ⟨.one, o, n, z⟩ r = scItem ⟨.one, o, n, z⟩ r := by simp [scClass, *]
  rw [e]
  exact ⟨rfl, hk1, hs1⟩
theorem class_upto {w : World} {b : Nat} {o n : Int} {z : Bool} (hS : ScAt w b ⟨.upto, o, n, z⟩) (r : Int) :
  Calls Tryz.prog 72 #[.pointer (some ⟨b, 0, none⟩), .int .i64 r] w (ScPost b (scClass ⟨.upto, o, n, z⟩ r) w) := by
 have c0 : w.cell? ⟨b, 0, none⟩ = some (.string ⟨#[117, 112, 116, 111]⟩) := hS.cell 0
 have f0 : w.frozen? ⟨b, 0, none⟩ = false := hS.frozen 0
 go_enter Tryz.func72, Tryz.ntmps72
 go_wp2_with (go_at_call 70; refine (amongL _ kClass _ _ (by rfl) (by decide)).mono ?_; rintro e w1 ⟨rfl, rfl⟩)
 all_goals go_ret
 all_goals go_light
 ·exact scp_some (c' := ⟨.upescape, o, n, z⟩) (by simp [scClass, *]) (kept_set 0 _) (hS.setCell 0 _)
 ·exact scp_bool (p := !inSet kClass r) (c' := ⟨.items, o, n, z⟩) (by cases hk : inSet kClass r <;> simp [scClass, *]) (kept_set 0 _) (hS.setCell 0 _)
theorem class_upescape {w : World} {b : Nat} {o n : Int} {z : Bool} (hS : ScAt w b ⟨.upescape, o, n, z⟩) (r : Int) :
  Calls Tryz.prog 72 #[.pointer (some ⟨b, 0, none⟩), .int .i64 r] w (ScPost b (scClass ⟨.upescape, o, n, z⟩ r) w) := by
 have c0 : w.cell? ⟨b, 0, none⟩ = some (.string ⟨#[117, 112, 101, 115, 99, 97, 112, 101]⟩) := hS.cell 0
 have f0 : w.frozen? ⟨b, 0, none⟩ = false := hS.frozen 0
 cases hm : inSet kMarks r
 ·go_enter Tryz.func72, Tryz.ntmps72
  go_wp2_with fail
  refine (amongL _ kMarks _ _ (by rfl) (by decide)).mono ?_
  rintro e w1 ⟨rfl, rfl⟩
  rw [hm]
  go_wp2_with fail
  refine (amongL _ kCtl _ _ (by rfl) (by decide)).mono ?_
  rintro e w1 ⟨rfl, rfl⟩
  go_wp2_with fail
  go_ret
  exact scp_bool (p := inSet kCtl r) (c' := ⟨.items, o, n, z⟩) (by cases hk : inSet kCtl r <;> simp [scClass, hm, hk]) (kept_set 0 _) (hS.setCell 0 _)
 ·go_enter Tryz.func72, Tryz.ntmps72
  go_wp2_with fail
  refine (amongL _ kMarks _ _ (by rfl) (by decide)).mono ?_
  rintro e w1 ⟨rfl, rfl⟩
  rw [hm]
  go_wp2_with fail
  go_ret
  exact scp_some (c' := ⟨.items, o, n, z⟩) (by simp [scClass, hm]) (kept_set 0 _) (hS.setCell 0 _)
theorem class_escape1 {w : World} {b : Nat} {o n : Int} {z : Bool} (hS : ScAt w b ⟨.escape1, o, n, z⟩) (r : Int) :
  Calls Tryz.prog 72 #[.pointer (some ⟨b, 0, none⟩), .int .i64 r] w (ScPost b (scClass ⟨.escape1, o, n, z⟩ r) w) := by
 have c0 : w.cell? ⟨b, 0, none⟩ = some (.string ⟨#[101, 115, 99, 97, 112, 101, 49]⟩) := hS.cell 0
 have f0 : w.frozen? ⟨b, 0, none⟩ = false := hS.frozen 0
 cases hd : inSet kSets r
 ·cases hm : inSet kMarks r
  ·go_enter Tryz.func72, Tryz.ntmps72
   go_wp2_with fail
   refine (amongL _ kSets _ _ (by rfl) (by decide)).mono ?_
   rintro e w1 ⟨rfl, rfl⟩
   rw [hd]
   go_wp2_with fail
   refine (amongL _ kMarks _ _ (by rfl) (by decide)).mono ?_
   rintro e w1 ⟨rfl, rfl⟩
   rw [hm]
   go_wp2_with fail
   refine (amongL _ kCtl _ _ (by rfl) (by decide)).mono ?_
   rintro e w1 ⟨rfl, rfl⟩
   go_wp2_with fail
   go_ret
   exact scp_bool (p := inSet kCtl r) (c' := ⟨.one, o, n, z⟩) (by cases hk : inSet kCtl r <;> simp [scClass, hd, hm, hk]) (kept_set 0 _) (hS.setCell 0 _)
  ·go_enter Tryz.func72, Tryz.ntmps72
   go_wp2_with fail
   refine (amongL _ kSets _ _ (by rfl) (by decide)).mono ?_
   rintro e w1 ⟨rfl, rfl⟩
   rw [hd]
   go_wp2_with fail
   refine (amongL _ kMarks _ _ (by rfl) (by decide)).mono ?_
   rintro e w1 ⟨rfl, rfl⟩
   rw [hm]
   go_wp2_with fail
   go_ret
   exact scp_some (c' := ⟨.one, o, n, z⟩) (by simp [scClass, hd, hm]) (kept_set 0 _) (hS.setCell 0 _)
 ·go_enter Tryz.func72, Tryz.ntmps72
  go_wp2_with fail
  refine (amongL _ kSets _ _ (by rfl) (by decide)).mono ?_
  rintro e w1 ⟨rfl, rfl⟩
  rw [hd]
  go_wp2_with fail
  go_ret
  exact scp_some (c' := ⟨.items, o, n, z⟩) (by simp [scClass, hd]) (kept_set 0 _) (hS.setCell 0 _)
end Go.Proofs.YtfollffpibmgcaaGreatDoor
