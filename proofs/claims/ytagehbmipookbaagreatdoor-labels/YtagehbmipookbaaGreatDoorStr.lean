/- What the program calls of package strings, at texts of single bytes: IndexByte, IndexRune, ContainsRune: does a rune stand in a text of ASCII bytes? The world is as it was, but for new blocks. -/
import Derived.Test.YtagehbmipookbaaGreatDoorWorld
import Derived.Lib.Bytealg
import Derived.Lib.Strings
import Derived.Deep.QuietTactic
import Derived.BigQuiet
import Derived.Deep.DeepMust
import Derived.WalkMore
namespace Go.Proofs.YtagehbmipookbaaGreatDoor
open Go.RowKit
set_option linter.unusedVariables false
set_option maxRecDepth 100000

def inSet (l : List UInt8) (r : Int) : Bool := l.any fun b => (b.toNat : Int) == r

theorem indexByte_lite (s : ByteArray) (c : Int) (w : World) :
    Calls Tryz.prog 87 #[.string s, .int .u8 c] w fun e w' => e = .returned (.int .i64 (Lib.indexByte s.data.toList c.toNat.toUInt8)) ∧ w' = w := by
  go_enter Tryz.func87, Tryz.ntmps87
  go_wp2
  rw [run_callFunc_extern Tryz.func93 (by kernel_rfl) (by kernel_rfl) (by kernel_rfl) (e := Extern.BytealgIndexByte.indexByte) (by kernel_rfl), Lib.run_indexByteString]
  simp only [Result.andThen]
  rw [Oper.upon_value]
  go_wp2
  go_ret
  exact ⟨rfl, rfl⟩

theorem indexByte_any (s : ByteArray) (c : Int) (w : World) :
    Calls Tryz.prog 75 #[.string s, .int .u8 c] w fun e w' => e = .returned (.int .i64 (Lib.indexByte s.data.toList c.toNat.toUInt8)) ∧ w' = w := by
  go_enter Tryz.func75, Tryz.ntmps75
  go_wp2_with (go_at_call 87; refine (indexByte_lite _ _ _).mono ?_; rintro e w' ⟨rfl, rfl⟩)
  go_ret
  exact ⟨rfl, rfl⟩

def validRune (r : Int) : Bool := decide ((0 ≤ r ∧ r < 55296) ∨ (57343 < r ∧ r ≤ 1114111))
theorem validRune_any (r : Int) (w : World) : Calls Tryz.prog 76 #[.int .i32 r] w fun e w' => e = .returned (.bool (validRune r)) ∧ w' = w := by
  go_enter Tryz.func76, Tryz.ntmps76
  go_wp2
  all_goals go_ret
  all_goals refine ⟨?_, rfl⟩
  all_goals (congr 2; simp [validRune]; omega)

theorem inSet_index (l : List UInt8) (r : Int) (h0 : 0 ≤ r) (h1 : r < 128) : (decide (0 ≤ Lib.indexByte l r.toNat.toUInt8)) = inSet l r := by
  induction l with
  | nil => simp [Lib.indexByte, inSet]
  | cons b l ih =>
    have hge := Lib.indexByte_ge l r.toNat.toUInt8
    have hc : (b == r.toNat.toUInt8) = ((b.toNat : Int) == r) := by
      have hb := b.toNat_lt
      rw [Bool.eq_iff_iff]
      simp only [beq_iff_eq]
      constructor
      · intro e; rw [e]; simp; omega
      · intro e; apply UInt8.toNat.inj; simp; omega
    have hi : inSet (b :: l) r = (((b.toNat : Int) == r) || inSet l r) := by simp [inSet]
    rw [hi, ← ih, ← hc]
    have hu : Lib.indexByte (b :: l) r.toNat.toUInt8 = if b == r.toNat.toUInt8 then 0 else if Lib.indexByte l r.toNat.toUInt8 == -1 then -1 else Lib.indexByte l r.toNat.toUInt8 + 1 := rfl
    rw [hu]
    generalize Lib.indexByte l r.toNat.toUInt8 = x at *
    cases hb : (b == r.toNat.toUInt8)
    · by_cases hx : x = -1
      · simp [hx]
      · simp [hx]; omega
    · simp

set_option maxRecDepth 1000000 in
set_option maxHeartbeats 2000000 in
theorem indexRune_ascii (s : ByteArray) (r : Int) (w : World) (h0 : 0 ≤ r) (h1 : r < 128) :
    Calls Tryz.prog 63 #[.string s, .int .i32 r] w fun e w' => e = .returned (.int .i64 (Lib.indexByte s.data.toList r.toNat.toUInt8)) ∧ w' = w := by
  go_enter Tryz.func63, Tryz.ntmps63
  go_wp2_with (go_at_call 75; refine (indexByte_any _ _ _).mono ?_; rintro e w' ⟨rfl, rfl⟩)
  go_ret
  exact ⟨rfl, rfl⟩

set_option maxRecDepth 1000000 in
set_option maxHeartbeats 2000000 in
theorem indexRune_bad (s : ByteArray) (r : Int) (w : World) (hv : validRune r = false) :
    Calls Tryz.prog 63 #[.string s, .int .i32 r] w fun e w' => e = .returned (.int .i64 (-1)) ∧ w' = w := by
  have hr : r < 0 ∨ 55296 ≤ r := by simp [validRune] at hv; omega
  have hne : (r == 65533) = false := by simp [validRune] at hv; simp; omega
  rcases hr with hr | hr
  · go_enter Tryz.func63, Tryz.ntmps63
    go_wp2_with (go_at_call 76; refine (validRune_any _ _).mono ?_; rintro e w' ⟨rfl, rfl⟩)
    go_ret
    exact ⟨rfl, rfl⟩
  · go_enter Tryz.func63, Tryz.ntmps63
    go_wp2_with (go_at_call 76; refine (validRune_any _ _).mono ?_; rintro e w' ⟨rfl, rfl⟩)
    go_ret
    exact ⟨rfl, rfl⟩

set_option maxRecDepth 1000000 in
set_option maxHeartbeats 2000000 in
theorem indexRune_error (s : ByteArray) (w : World) (hs : ∀ b ∈ s.data.toList, b.toNat < 128) :
    Calls Tryz.prog 63 #[.string s, .int .i32 65533] w fun e w' => e = .returned (.int .i64 (-1)) ∧ Kept Nil w w' := by
  go_enter Tryz.func63, Tryz.ntmps63
  go_wp2_with fail
  go_loopw [5] (fun _ wr => ∃ k : Nat, k ≤ s.size ∧ wr = w.iter s k) (fun _ wr => s.size - wr.iterPos w.heap.size)
  case atStart => exact ⟨0, Nat.zero_le _, rfl⟩
  case round =>
    obtain ⟨k, hk, rfl⟩ := hrel
    by_cases hlt : k < s.size
    · have hb := hs s[k] (by exact Array.getElem_mem_toList (xs := s.data) hlt)
      have hn := fun ty => run_next_ascii (P := Tryz.prog) w s k ty hlt hb
      have hne : (((s[k]).toNat : Int) == 65533) = false := by simp; omega
      go_wp2_with fail
      go_roundw
      case rel => exact ⟨k + 1, by omega, rfl⟩
      case measure => simp; omega
    · have hn := fun ty => run_next_end (P := Tryz.prog) w s k ty hlt
      go_wp2_with fail
      go_ret
      exact ⟨rfl, (Kept.refl _ _).alloc _⟩

theorem indexByte_far (l : List UInt8) (c : UInt8) (h : ∀ b ∈ l, b.toNat < 128) (hc : 128 ≤ c.toNat) : Lib.indexByte l c < 0 := by
  induction l with
  | nil => simp [Lib.indexByte]
  | cons b l ih =>
    have hb := h b (by simp)
    have hne : (b == c) = false := by
      cases hx : (b == c)
      · rfl
      · have := beq_iff_eq.1 hx; rw [this] at hb; omega
    have i := ih (fun x hx => h x (by simp [hx]))
    have hu : Lib.indexByte (b :: l) c = if b == c then 0 else if Lib.indexByte l c == -1 then -1 else Lib.indexByte l c + 1 := rfl
    have hge := Lib.indexByte_ge l c
    have e : Lib.indexByte l c = -1 := by omega
    rw [hu, hne, e]; simp

set_option maxRecDepth 1000000 in
set_option maxHeartbeats 2000000 in
theorem indexRune_far (s : ByteArray) (r : Int) (w : World) (hs : ∀ b ∈ s.data.toList, b.toNat < 128) (hv : validRune r = true) (h : 128 ≤ r) (hne : (r == 65533) = false) :
    Calls Tryz.prog 63 #[.string s, .int .i32 r] w fun e w' => e = .returned (.int .i64 (-1)) ∧ Kept Nil w w' := by
  have hvv : Utf8.valid r = true := by simp [validRune] at hv; simp [Utf8.valid]; omega
  obtain ⟨e2, e4, el⟩ := encode_facts r hvv h
  have hlast := el (by omega)
  have hlt : ((Utf8.encode r).size : Int) - 1 < ((Utf8.encode r).size : Int) := by omega
  clear hvv
  go_enter Tryz.func63, Tryz.ntmps63
  go_wp2_with (go_at_call 76; refine (validRune_any _ _).mono ?_; rintro e w' ⟨rfl, rfl⟩)
  go_step3
  go_wp2_with fail
  refine wp_loop_rounds 1 ?_
  rw [rounds_succ]
  by_cases hsz : ((Utf8.encode r).size : Int) - 1 < (s.size : Int)
  · go_wp2_with fail
    go_step3
    go_wp2_with fail
    have hE1 : 0 ≤ ((Utf8.encode r).size : Int) - 1 := by omega
    have hL : (Utf8.encode r).size - 1 < (Utf8.encode r).size := by omega
    have hE2 : (1 : Int) ≤ ((Utf8.encode r).size : Int) := by omega
    have hS : (Utf8.encode r).size - 1 < s.size := by omega
    have hsb := hs (s[(Utf8.encode r).size - 1]) (by exact Array.getElem_mem_toList (xs := s.data) hS)
    have hN : (((Utf8.encode r).size : Int) - 1).toNat = (Utf8.encode r).size - 1 := by omega
    go_region
    all_goals go_wp2_with fail
    have hwr : IntKind.i64.wrap ((Utf8.encode r).size : Int) = ((Utf8.encode r).size : Int) := wrap_small _ (by omega) (by omega)
    have hS2 : (Utf8.encode r).size ≤ s.size := by omega
    obtain ⟨w2, hw2⟩ : ∃ w2, w2 = w'.drew := ⟨_, rfl⟩
    have hk2 : Kept Nil w' w2 := by rw [hw2]; exact (Kept.refl _ _).drew
    rw [← hw2]
    clear hw2
    go_quiet ((go_at_call 75; go_must (exact Calls.quiet_of_same (indexByte_any _ _ _))))
    have hfar : Lib.indexByte (List.take (s.size - (Utf8.encode r).size) (List.drop (Utf8.encode r).size s.data.toList)) (Utf8.encode r)[(Utf8.encode r).size - 1] < 0 :=
      indexByte_far _ _ (fun b hb => hs b (List.mem_of_mem_drop (List.mem_of_mem_take hb))) hlast
    go_wp2_with fail
    rw [Exit.noGoto_ret]
    go_wp2_with fail
    rw [Exit.noGoto_ret]
    go_wp2_with fail
    go_ret
    exact ⟨rfl, hk2.drewN _⟩
  · go_wp2_with fail
    go_ret
    exact ⟨rfl, Kept.refl _ _⟩

/-- strings.ContainsRune at a text of ASCII bytes: is the rune one of its bytes? -/
theorem containsRune_any (s : ByteArray) (r : Int) (w : World) (hs : ∀ b ∈ s.data.toList, b.toNat < 128) :
    Calls Tryz.prog 55 #[.string s, .int .i32 r] w fun e w' => e = .returned (.bool (inSet s.data.toList r)) ∧ Kept Nil w w' := by
  have key : ∃ i : Int, decide (0 ≤ i) = inSet s.data.toList r ∧ Calls Tryz.prog 63 #[.string s, .int .i32 r] w fun e w' => e = .returned (.int .i64 i) ∧ Kept Nil w w' := by
    have hout : ¬ (0 ≤ r ∧ r < 128) → inSet s.data.toList r = false := by
      intro hr
      unfold inSet
      rw [List.any_eq_false]
      intro b hb
      have := hs b hb
      simp; omega
    by_cases h1 : 0 ≤ r ∧ r < 128
    · exact ⟨_, inSet_index _ _ h1.1 h1.2, (indexRune_ascii s r w h1.1 h1.2).mono fun e w' ⟨he, hw⟩ => ⟨he, hw ▸ Kept.refl _ _⟩⟩
    · refine ⟨-1, by rw [hout h1]; decide, ?_⟩
      cases hv : validRune r
      · exact (indexRune_bad s r w hv).mono fun e w' ⟨he, hw⟩ => ⟨he, hw ▸ Kept.refl _ _⟩
      · have h0 : 128 ≤ r := by simp [validRune] at hv; omega
        by_cases he : r = 65533
        · subst he; exact indexRune_error s w hs
        · exact indexRune_far s r w hs hv h0 (by simp [he])
  obtain ⟨i, hi, hc⟩ := key
  go_enter Tryz.func55, Tryz.ntmps55
  go_wp2_with (go_at_call 63; refine hc.mono ?_; rintro e w' ⟨rfl, hk⟩)
  go_ret
  exact ⟨rfl, by assumption⟩

/-- strings.HasPrefix -/
theorem hasPrefix_any (s p : ByteArray) (w : World) :
    Calls Tryz.prog 26 #[.string s, .string p] w fun e w' => e = .returned (.bool (Lib.hasPrefix s.data.toList p.data.toList)) ∧ Kept Nil w w' := by
  rw [← Lib.hasPrefix_of_take, ← Lib.size_eq, ← Lib.size_eq]
  go_enter Tryz.func26, Tryz.ntmps26
  go_wp2
  · rename_i h
    go_ret
    refine ⟨?_, Kept.refl _ _⟩
    show Ending.returned (Value.bool ((s.extract 0 p.size).toList == p.toList)) = _
    rw [Lib.extract_toList, Lib.toList_data]
    simp [h]
  · rename_i h
    go_ret
    refine ⟨?_, Kept.refl _ _⟩
    show Ending.returned (Value.bool false) = _
    simp [h]
end Go.Proofs.YtagehbmipookbaaGreatDoor
