/- The leaves of the reference (package trawlref): tail, need, digit, small, among: each returns what its Go text says, whatever its argument; the world is as it was. -/
import Derived.Test.YtagehbmipookbaaGreatDoorWorld
import Derived.Test.YtagehbmipookbaaGreatDoorStr
import Derived.Lib.Strings
namespace Go.Proofs.YtagehbmipookbaaGreatDoor
open Go.RowKit
set_option linter.unusedVariables false
set_option maxRecDepth 100000

/-- how many bytes, the least and the greatest second byte -/
def needOf (c : Int) : Int × Int × Int :=
  if c < 128 then (1, 0, 0) else if 194 ≤ c ∧ c < 224 then (2, 128, 191) else if c = 224 then (3, 160, 191) else if c = 237 then (3, 128, 159)
  else if 224 < c ∧ c < 240 then (3, 128, 191) else if c = 240 then (4, 144, 191) else if 240 < c ∧ c < 244 then (4, 128, 191) else if c = 244 then (4, 128, 143) else (0, 0, 0)

theorem need_ret {c a b d : Int} (h : needOf c = (a, b, d)) : Ending.returned (.tuple #[.int .i64 a, .int .u8 b, .int .u8 d]) = Ending.returned (.tuple #[.int .i64 (needOf c).1, .int .u8 (needOf c).2.1, .int .u8 (needOf c).2.2]) := by rw [h]

theorem need_any (c : Int) (w : World) :
    Calls Tryz.prog 31 #[.int .u8 c] w fun e w' => e = .returned (.tuple #[.int .i64 (needOf c).1, .int .u8 (needOf c).2.1, .int .u8 (needOf c).2.2]) ∧ w' = w := by
  go_enter Tryz.func31, Tryz.ntmps31
  go_wp2
  all_goals go_ret3
  all_goals refine ⟨need_ret ?_, rfl⟩
  all_goals ((try simp only [beq_iff_eq, beq_eq_false_iff_ne, ne_eq] at *); unfold needOf; repeat (first | rw [if_pos (by omega)] | rw [if_neg (by omega)]))

def tailOf (c : Int) : Bool := decide (128 ≤ c ∧ c < 192)
theorem tail_any (c : Int) (w : World) :
    Calls Tryz.prog 32 #[.int .u8 c] w fun e w' => e = .returned (.bool (tailOf c)) ∧ w' = w := by
  go_enter Tryz.func32, Tryz.ntmps32
  go_wp2
  all_goals go_ret
  all_goals refine ⟨?_, rfl⟩
  all_goals (congr 2; simp [tailOf]; omega)

def digitOf (c : Int) : Bool := decide (48 ≤ c ∧ c ≤ 57)
theorem digit_any (c : Int) (w : World) :
    Calls Tryz.prog 45 #[.int .i64 c] w fun e w' => e = .returned (.bool (digitOf c)) ∧ w' = w := by
  go_enter Tryz.func45, Tryz.ntmps45
  go_wp2
  all_goals go_ret
  all_goals refine ⟨?_, rfl⟩
  all_goals (congr 2; simp [digitOf]; omega)

def smallOf (c : Int) : Bool := decide (97 ≤ c ∧ c ≤ 122)
theorem small_any (c : Int) (w : World) :
    Calls Tryz.prog 44 #[.int .i64 c] w fun e w' => e = .returned (.bool (smallOf c)) ∧ w' = w := by
  go_enter Tryz.func44, Tryz.ntmps44
  go_wp2
  all_goals go_ret
  all_goals refine ⟨?_, rfl⟩
  all_goals (congr 2; simp [smallOf]; omega)

theorem wrap64_byte (b : UInt8) : wrap64 (b.toNat : Int) = b.toNat := by have := b.toNat_lt; unfold wrap64; omega

theorem inSet_take (l : List UInt8) (r : Int) (k : Nat) (hk : k < l.length) : inSet (l.take (k + 1)) r = (inSet (l.take k) r || ((l[k].toNat : Int) == r)) := by
  unfold inSet
  rw [List.take_succ_eq_append_getElem hk, List.any_append]
  simp only [List.any_cons, List.any_nil, Bool.or_false]

theorem inSet_hit (l : List UInt8) (r : Int) (k : Nat) (hk : k < l.length) (h : ((l[k].toNat : Int) == r) = true) : inSet l r = true := by
  unfold inSet
  rw [List.any_eq_true]
  exact ⟨l[k], List.getElem_mem hk, h⟩

theorem among_any (s : ByteArray) (r : Int) (w : World) (hs : s.size ≤ 1000) :
    Calls Tryz.prog 35 #[.string s, .int .i64 r] w fun e w' => e = .returned (.bool (inSet s.data.toList r)) ∧ w' = w := by
  go_enter Tryz.func35, Tryz.ntmps35
  go_wp2
  go_loop [5] (fun i => ∃ k : Nat, k ≤ s.size ∧ i = .int .i64 k ∧ inSet (s.data.toList.take k) r = false) (fun i => s.size - (intOf i).toNat)
  case atStart => exact ⟨0, Nat.zero_le _, rfl, by simp [inSet]⟩
  case round =>
    obtain ⟨k, hk, rfl, hno⟩ := hrel
    have HN : Hid (inSet (s.data.toList.take k) r = false) := hno
    clear hno
    by_cases hlt : k < s.size
    · have hl : k < s.data.toList.length := by simpa using hlt
      have he : s.data.toList[k] = s[k] := rfl
      cases hc : ((s[k].toNat : Int) == r)
      · have hc' : (wrap64 (s[k].toNat : Int) == r) = false := by rw [wrap64_byte]; exact hc
        go_wp2
        go_round
        case rel => exact ⟨k + 1, by omega, by go_num, by rw [inSet_take _ _ _ hl, HN.out, he, hc]; rfl⟩
        case measure => simp [intOf]; omega
      · have hh := inSet_hit s.data.toList r k hl hc
        have HH : Hid (inSet s.data.toList r = true) := hh
        clear hh
        have hc' : (wrap64 (s[k].toNat : Int) == r) = true := by rw [wrap64_byte]; exact hc
        go_wp2
        go_ret
        exact ⟨by rw [HH.out]; rfl, rfl⟩
    · go_wp2
      go_ret
      have hx := HN.out
      rw [List.take_of_length_le (by simp; omega)] at hx
      exact ⟨by rw [hx]; rfl, rfl⟩
end Go.Proofs.YtagehbmipookbaaGreatDoor
