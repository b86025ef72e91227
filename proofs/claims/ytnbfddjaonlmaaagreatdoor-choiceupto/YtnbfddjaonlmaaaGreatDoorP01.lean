/- Words on memory: 'Kept S w w'': the world w' is w but for the blocks of S and for new blocks; a block of cells, its cells and marks. What the program calls of package strings, at texts of single bytes: IndexByte, IndexRune, ContainsRune: does a rune stand in a text of ASCII bytes? The world is as it was, but for new blocks. -/
import Derived.Test.YtnbfddjaonlmaaaGreatDoorRows
import Derived.WalkKit
import Derived.WalkLawsBesides
import Derived.Maps.OwnSet
import Derived.Lib.Bytealg
import Derived.Lib.Strings
import Derived.Deep.QuietTactic
import Derived.BigQuiet
import Derived.Deep.DeepMust
import Derived.WalkMore
set_option linter.unusedVariables false
set_option maxRecDepth 100000
namespace Go.Proofs.YtnbfddjaonlmaaaGreatDoor
open Go.RowKit

structure Kept (S : Nat → Prop) (w w' : World) : Prop where
  os : w'.os = w.os
  tape : w'.tape = w.tape
  output : w'.output = w.output
  size : w.heap.size ≤ w'.heap.size
  block : ∀ k, k < w.heap.size → ¬ S k → w'.heap[k]? = w.heap[k]?

def Nil : Nat → Prop := fun _ => False

theorem Kept.refl (S : Nat → Prop) (w : World) : Kept S w w := ⟨rfl, rfl, rfl, Nat.le_refl _, fun _ _ _ => rfl⟩
theorem Kept.trans {S : Nat → Prop} {a b c : World} (h : Kept S a b) (k : Kept S b c) : Kept S a c :=
  ⟨k.os.trans h.os, k.tape.trans h.tape, k.output.trans h.output, Nat.le_trans h.size k.size, fun i hi hs => (k.block i (Nat.lt_of_lt_of_le hi h.size) hs).trans (h.block i hi hs)⟩
/-- the second step may also turn blocks that are new since a -/
theorem Kept.trans' {S S' : Nat → Prop} {a b c : World} (h : Kept S a b) (k : Kept S' b c) (hs : ∀ i, i < a.heap.size → S' i → S i) : Kept S a c :=
  ⟨k.os.trans h.os, k.tape.trans h.tape, k.output.trans h.output, Nat.le_trans h.size k.size, fun i hi hn => (k.block i (Nat.lt_of_lt_of_le hi h.size) (fun h' => hn (hs i hi h'))).trans (h.block i hi hn)⟩
theorem Kept.mono {S S' : Nat → Prop} {w w' : World} (h : Kept S w w') (hs : ∀ i, S i → S' i) : Kept S' w w' :=
  ⟨h.os, h.tape, h.output, h.size, fun k hk hn => h.block k hk (fun h' => hn (hs k h'))⟩
theorem Kept.drew {S : Nat → Prop} {a w : World} (h : Kept S a w) : Kept S a w.drew := ⟨h.os, h.tape, h.output, h.size, h.block⟩
theorem Kept.drewN {S : Nat → Prop} {a w : World} (h : Kept S a w) (n : Nat) : Kept S a (w.drewN n) := ⟨h.os, h.tape, h.output, h.size, h.block⟩
theorem Kept.alloc {S : Nat → Prop} {a w : World} (h : Kept S a w) (o : Obj) : Kept S a (w.alloc o) :=
  ⟨h.os, h.tape, h.output, by have := h.size; simp; omega, fun k hk hs => (Below.heap_alloc w o k (Nat.lt_of_lt_of_le hk h.size)).trans (h.block k hk hs)⟩
theorem Kept.setCell {S : Nat → Prop} {a w : World} (h : Kept S a w) {p : Addr} (hp : S p.block ∨ a.heap.size ≤ p.block) (u : Value) : Kept S a (w.setCell p u) :=
  ⟨h.os, h.tape, h.output, by have := h.size; simp [World.setCell]; omega, fun k hk hs => (Below.heap_setCell w p u k (by
    intro e; subst e
    rcases hp with hp | hp
    · exact hs hp
    · omega)).trans (h.block k hk hs)⟩
theorem Kept.grown {S : Nat → Prop} {a w w' : World} {row : Option Nat} (h : Kept S a w) (hg : w.grownBy w' row) (hr : ∀ k, row = some k → S k ∨ a.heap.size ≤ k) : Kept S a w' :=
  ⟨hg.os.trans h.os, hg.tape.trans h.tape, hg.output.trans h.output, Nat.le_trans h.size hg.size, fun k hk hs => (hg.block k (Nat.lt_of_lt_of_le hk h.size) (fun e => by
    rcases hr k e.symm with hp | hp
    · exact hs hp
    · omega)).trans (h.block k hk hs)⟩
theorem Kept.below {S : Nat → Prop} {w w' : World} (h : Kept S w w') {B : Nat} (hB : B ≤ w.heap.size) (hs : ∀ k, k < B → ¬ S k) : Below B w w' :=
  ⟨h.os, h.tape, h.output, h.size, fun k hk => h.block k (Nat.lt_of_lt_of_le hk hB) (hs k hk)⟩
theorem Kept.cell {S : Nat → Prop} {w w' : World} (h : Kept S w w') {p : Addr} (hp : p.block < w.heap.size) (hs : ¬ S p.block) : w'.cell? p = w.cell? p := World.cell?_of_block (w := w) (h.block p.block hp hs)
theorem Kept.frozen {S : Nat → Prop} {w w' : World} (h : Kept S w w') {p : Addr} (hp : p.block < w.heap.size) (hs : ¬ S p.block) : w'.frozen? p = w.frozen? p := World.frozen?_of_block (w := w) (h.block p.block hp hs)

/-- block b is a row of these cells, none of them frozen -/
def Blk (w : World) (b : Nat) (cs : Array Value) (t : TypeId) : Prop := w.heap[b]? = some (.cells cs t (0, 0))
theorem Blk.lt {w : World} {b : Nat} {cs : Array Value} {t : TypeId} (h : Blk w b cs t) : b < w.heap.size := by
  unfold Blk at h
  exact (Array.getElem?_eq_some_iff.1 h).1
theorem Blk.cell {w : World} {b : Nat} {cs : Array Value} {t : TypeId} (h : Blk w b cs t) (i : Nat) : w.cell? ⟨b, i, none⟩ = cs[i]? := by
  unfold Blk at h
  simp [World.cell?, h]
theorem Blk.frozen {w : World} {b : Nat} {cs : Array Value} {t : TypeId} (h : Blk w b cs t) (i : Nat) : w.frozen? ⟨b, i, none⟩ = false := by
  unfold Blk at h
  simp [World.frozen?, h]
theorem Blk.kept {S : Nat → Prop} {w w' : World} {b : Nat} {cs : Array Value} {t : TypeId} (h : Blk w b cs t) (k : Kept S w w') (hs : ¬ S b) : Blk w' b cs t := (k.block b h.lt hs).trans h
theorem Blk.setCell {w : World} {b : Nat} {cs : Array Value} {t : TypeId} (h : Blk w b cs t) (i : Nat) (v : Value) : Blk (w.setCell ⟨b, i, none⟩ v) b (cs.setIfInBounds i v) t := by
  unfold Blk at *
  have hb := (Array.getElem?_eq_some_iff.1 h).1
  simp only [World.setCell, Array.getElem?_modify]
  simp [h]
theorem Blk.setCell_other {w : World} {b : Nat} {cs : Array Value} {t : TypeId} (h : Blk w b cs t) {p : Addr} (hp : b ≠ p.block) (v : Value) : Blk (w.setCell p v) b cs t := (Below.heap_setCell w p v b hp).trans h
theorem Blk.alloc {w : World} {b : Nat} {cs : Array Value} {t : TypeId} (h : Blk w b cs t) (o : Obj) : Blk (w.alloc o) b cs t := (Below.heap_alloc w o b h.lt).trans h
theorem Blk.new (w : World) (cs : Array Value) (t : TypeId) : Blk (w.alloc (.cells cs t (0, 0))) w.heap.size cs t := by
  show (w.heap.push _)[w.heap.size]? = _
  simp
theorem Blk.drew {w : World} {b : Nat} {cs : Array Value} {t : TypeId} (h : Blk w b cs t) : Blk w.drew b cs t := h

def inSet (l : List UInt8) (r : Int) : Bool := l.any fun b => (b.toNat : Int) == r

theorem indexByte_lite (s : ByteArray) (c : Int) (w : World) :
    Calls Tryz.prog 122 #[.string s, .int .u8 c] w fun e w' => e = .returned (.int .i64 (Lib.indexByte s.data.toList c.toNat.toUInt8)) ∧ w' = w := by
  go_enter Tryz.func122, Tryz.ntmps122
  go_wp2
  rw [run_callFunc_extern Tryz.func128 (by kernel_rfl) (by kernel_rfl) (by kernel_rfl) (e := Extern.BytealgIndexByte.indexByte) (by kernel_rfl), Lib.run_indexByteString]
  simp only [Result.andThen]
  rw [Oper.upon_value]
  go_wp2
  go_ret
  exact ⟨rfl, rfl⟩

theorem indexByte_any (s : ByteArray) (c : Int) (w : World) :
    Calls Tryz.prog 110 #[.string s, .int .u8 c] w fun e w' => e = .returned (.int .i64 (Lib.indexByte s.data.toList c.toNat.toUInt8)) ∧ w' = w := by
  go_enter Tryz.func110, Tryz.ntmps110
  go_wp2_with (go_at_call 122; refine (indexByte_lite _ _ _).mono ?_; rintro e w' ⟨rfl, rfl⟩)
  go_ret
  exact ⟨rfl, rfl⟩

def validRune (r : Int) : Bool := decide ((0 ≤ r ∧ r < 55296) ∨ (57343 < r ∧ r ≤ 1114111))
theorem validRune_any (r : Int) (w : World) : Calls Tryz.prog 111 #[.int .i32 r] w fun e w' => e = .returned (.bool (validRune r)) ∧ w' = w := by
  go_enter Tryz.func111, Tryz.ntmps111
  go_wp2
  all_goals go_ret
  all_goals refine ⟨?_, rfl⟩
  all_goals (congr 2; simp [validRune]; omega)

theorem inSet_index (l : List UInt8) (r : Int) (h0 : 0 ≤ r) (h1 : r < 128) : (decide (0 ≤ Lib.indexByte l r.toNat.toUInt8)) = inSet l r := by
  induction l with
  | nil => simp [Lib.indexByte, inSet]
  | cons b l ih =>
    have hge := Lib.indexByte_ge l r.toNat.toUInt8
    have hc : (b == r.toNat.toUInt8) = ((b.toNat : Int) == r) := by
      have hb := b.toNat_lt
      rw [Bool.eq_iff_iff]
      simp only [beq_iff_eq]
      constructor
      · intro e; rw [e]; simp; omega
      · intro e; apply UInt8.toNat.inj; simp; omega
    have hi : inSet (b :: l) r = (((b.toNat : Int) == r) || inSet l r) := by simp [inSet]
    rw [hi, ← ih, ← hc]
    have hu : Lib.indexByte (b :: l) r.toNat.toUInt8 = if b == r.toNat.toUInt8 then 0 else if Lib.indexByte l r.toNat.toUInt8 == -1 then -1 else Lib.indexByte l r.toNat.toUInt8 + 1 := rfl
    rw [hu]
    generalize Lib.indexByte l r.toNat.toUInt8 = x at *
    cases hb : (b == r.toNat.toUInt8)
    · by_cases hx : x = -1
      · simp [hx]
      · simp [hx]; omega
    · simp

set_option maxRecDepth 1000000 in
set_option maxHeartbeats 2000000 in
theorem indexRune_ascii (s : ByteArray) (r : Int) (w : World) (h0 : 0 ≤ r) (h1 : r < 128) :
    Calls Tryz.prog 97 #[.string s, .int .i32 r] w fun e w' => e = .returned (.int .i64 (Lib.indexByte s.data.toList r.toNat.toUInt8)) ∧ w' = w := by
  go_enter Tryz.func97, Tryz.ntmps97
  go_wp2_with (go_at_call 110; refine (indexByte_any _ _ _).mono ?_; rintro e w' ⟨rfl, rfl⟩)
  go_ret
  exact ⟨rfl, rfl⟩

set_option maxRecDepth 1000000 in
set_option maxHeartbeats 2000000 in
theorem indexRune_bad (s : ByteArray) (r : Int) (w : World) (hv : validRune r = false) :
    Calls Tryz.prog 97 #[.string s, .int .i32 r] w fun e w' => e = .returned (.int .i64 (-1)) ∧ w' = w := by
  have hr : r < 0 ∨ 55296 ≤ r := by simp [validRune] at hv; omega
  have hne : (r == 65533) = false := by simp [validRune] at hv; simp; omega
  rcases hr with hr | hr
  · go_enter Tryz.func97, Tryz.ntmps97
    go_wp2_with (go_at_call 111; refine (validRune_any _ _).mono ?_; rintro e w' ⟨rfl, rfl⟩)
    go_ret
    exact ⟨rfl, rfl⟩
  · go_enter Tryz.func97, Tryz.ntmps97
    go_wp2_with (go_at_call 111; refine (validRune_any _ _).mono ?_; rintro e w' ⟨rfl, rfl⟩)
    go_ret
    exact ⟨rfl, rfl⟩

set_option maxRecDepth 1000000 in
set_option maxHeartbeats 2000000 in
theorem indexRune_error (s : ByteArray) (w : World) (hs : ∀ b ∈ s.data.toList, b.toNat < 128) :
    Calls Tryz.prog 97 #[.string s, .int .i32 65533] w fun e w' => e = .returned (.int .i64 (-1)) ∧ Kept Nil w w' := by
  go_enter Tryz.func97, Tryz.ntmps97
  go_wp2_with fail
  go_loopw [5] (fun _ wr => ∃ k : Nat, k ≤ s.size ∧ wr = w.iter s k) (fun _ wr => s.size - wr.iterPos w.heap.size)
  case atStart => exact ⟨0, Nat.zero_le _, rfl⟩
  case round =>
    obtain ⟨k, hk, rfl⟩ := hrel
    by_cases hlt : k < s.size
    · have hb := hs s[k] (by exact Array.getElem_mem_toList (xs := s.data) hlt)
      have hn := fun ty => run_next_ascii (P := Tryz.prog) w s k ty hlt hb
      have hne : (((s[k]).toNat : Int) == 65533) = false := by simp; omega
      go_wp2_with fail
      go_roundw
      case rel => exact ⟨k + 1, by omega, rfl⟩
      case measure => simp; omega
    · have hn := fun ty => run_next_end (P := Tryz.prog) w s k ty hlt
      go_wp2_with fail
      go_ret
      exact ⟨rfl, (Kept.refl _ _).alloc _⟩

theorem indexByte_far (l : List UInt8) (c : UInt8) (h : ∀ b ∈ l, b.toNat < 128) (hc : 128 ≤ c.toNat) : Lib.indexByte l c < 0 := by
  induction l with
  | nil => simp [Lib.indexByte]
  | cons b l ih =>
    have hb := h b (by simp)
    have hne : (b == c) = false := by
      cases hx : (b == c)
      · rfl
      · have := beq_iff_eq.1 hx; rw [this] at hb; omega
    have i := ih (fun x hx => h x (by simp [hx]))
    have hu : Lib.indexByte (b :: l) c = if b == c then 0 else if Lib.indexByte l c == -1 then -1 else Lib.indexByte l c + 1 := rfl
    have hge := Lib.indexByte_ge l c
    have e : Lib.indexByte l c = -1 := by omega
    rw [hu, hne, e]; simp

set_option maxRecDepth 1000000 in
set_option maxHeartbeats 2000000 in
theorem indexRune_far (s : ByteArray) (r : Int) (w : World) (hs : ∀ b ∈ s.data.toList, b.toNat < 128) (hv : validRune r = true) (h : 128 ≤ r) (hne : (r == 65533) = false) :
    Calls Tryz.prog 97 #[.string s, .int .i32 r] w fun e w' => e = .returned (.int .i64 (-1)) ∧ Kept Nil w w' := by
  have hvv : Utf8.valid r = true := by simp [validRune] at hv; simp [Utf8.valid]; omega
  obtain ⟨e2, e4, el⟩ := encode_facts r hvv h
  have hlast := el (by omega)
  have hlt : ((Utf8.encode r).size : Int) - 1 < ((Utf8.encode r).size : Int) := by omega
  clear hvv
  go_enter Tryz.func97, Tryz.ntmps97
  go_wp2_with (go_at_call 111; refine (validRune_any _ _).mono ?_; rintro e w' ⟨rfl, rfl⟩)
  go_step3
  go_wp2_with fail
  refine wp_loop_rounds 1 ?_
  rw [rounds_succ]
  by_cases hsz : ((Utf8.encode r).size : Int) - 1 < (s.size : Int)
  · go_wp2_with fail
    go_step3
    go_wp2_with fail
    have hE1 : 0 ≤ ((Utf8.encode r).size : Int) - 1 := by omega
    have hL : (Utf8.encode r).size - 1 < (Utf8.encode r).size := by omega
    have hE2 : (1 : Int) ≤ ((Utf8.encode r).size : Int) := by omega
    have hS : (Utf8.encode r).size - 1 < s.size := by omega
    have hsb := hs (s[(Utf8.encode r).size - 1]) (by exact Array.getElem_mem_toList (xs := s.data) hS)
    have hN : (((Utf8.encode r).size : Int) - 1).toNat = (Utf8.encode r).size - 1 := by omega
    go_region
    all_goals go_wp2_with fail
    have hwr : IntKind.i64.wrap ((Utf8.encode r).size : Int) = ((Utf8.encode r).size : Int) := wrap_small _ (by omega) (by omega)
    have hS2 : (Utf8.encode r).size ≤ s.size := by omega
    obtain ⟨w2, hw2⟩ : ∃ w2, w2 = w'.drew := ⟨_, rfl⟩
    have hk2 : Kept Nil w' w2 := by rw [hw2]; exact (Kept.refl _ _).drew
    rw [← hw2]
    clear hw2
    go_quiet ((go_at_call 110; go_must (exact Calls.quiet_of_same (indexByte_any _ _ _))))
    have hfar : Lib.indexByte (List.take (s.size - (Utf8.encode r).size) (List.drop (Utf8.encode r).size s.data.toList)) (Utf8.encode r)[(Utf8.encode r).size - 1] < 0 :=
      indexByte_far _ _ (fun b hb => hs b (List.mem_of_mem_drop (List.mem_of_mem_take hb))) hlast
    go_wp2_with fail
    rw [Exit.noGoto_ret]
    go_wp2_with fail
    rw [Exit.noGoto_ret]
    go_wp2_with fail
    go_ret
    exact ⟨rfl, hk2.drewN _⟩
  · go_wp2_with fail
    go_ret
    exact ⟨rfl, Kept.refl _ _⟩

/-- strings.ContainsRune at a text of ASCII bytes: is the rune one of its bytes? -/
theorem containsRune_any (s : ByteArray) (r : Int) (w : World) (hs : ∀ b ∈ s.data.toList, b.toNat < 128) :
    Calls Tryz.prog 81 #[.string s, .int .i32 r] w fun e w' => e = .returned (.bool (inSet s.data.toList r)) ∧ Kept Nil w w' := by
  have key : ∃ i : Int, decide (0 ≤ i) = inSet s.data.toList r ∧ Calls Tryz.prog 97 #[.string s, .int .i32 r] w fun e w' => e = .returned (.int .i64 i) ∧ Kept Nil w w' := by
    have hout : ¬ (0 ≤ r ∧ r < 128) → inSet s.data.toList r = false := by
      intro hr
      unfold inSet
      rw [List.any_eq_false]
      intro b hb
      have := hs b hb
      simp; omega
    by_cases h1 : 0 ≤ r ∧ r < 128
    · exact ⟨_, inSet_index _ _ h1.1 h1.2, (indexRune_ascii s r w h1.1 h1.2).mono fun e w' ⟨he, hw⟩ => ⟨he, hw ▸ Kept.refl _ _⟩⟩
    · refine ⟨-1, by rw [hout h1]; decide, ?_⟩
      cases hv : validRune r
      · exact (indexRune_bad s r w hv).mono fun e w' ⟨he, hw⟩ => ⟨he, hw ▸ Kept.refl _ _⟩
      · have h0 : 128 ≤ r := by simp [validRune] at hv; omega
        by_cases he : r = 65533
        · subst he; exact indexRune_error s w hs
        · exact indexRune_far s r w hs hv h0 (by simp [he])
  obtain ⟨i, hi, hc⟩ := key
  go_enter Tryz.func81, Tryz.ntmps81
  go_wp2_with (go_at_call 97; refine hc.mono ?_; rintro e w' ⟨rfl, hk⟩)
  go_ret
  exact ⟨rfl, by assumption⟩

/-- strings.HasPrefix -/
theorem hasPrefix_any (s p : ByteArray) (w : World) :
    Calls Tryz.prog 36 #[.string s, .string p] w fun e w' => e = .returned (.bool (Lib.hasPrefix s.data.toList p.data.toList)) ∧ Kept Nil w w' := by
  rw [← Lib.hasPrefix_of_take, ← Lib.size_eq, ← Lib.size_eq]
  go_enter Tryz.func36, Tryz.ntmps36
  go_wp2
  · rename_i h
    go_ret
    refine ⟨?_, Kept.refl _ _⟩
    show Ending.returned (Value.bool ((s.extract 0 p.size).toList == p.toList)) = _
    rw [Lib.extract_toList, Lib.toList_data]
    simp [h]
  · rename_i h
    go_ret
    refine ⟨?_, Kept.refl _ _⟩
    show Ending.returned (Value.bool false) = _
    simp [h]
end Go.Proofs.YtnbfddjaonlmaaaGreatDoor
