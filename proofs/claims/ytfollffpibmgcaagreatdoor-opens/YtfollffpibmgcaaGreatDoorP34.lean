/- The reference: glyph: the rune at a place: as Go ranges over a string. The reference: glyph, whatever stands there; Runes; broken. -/
import Derived.Test.YtfollffpibmgcaaGreatDoorP24
import Derived.Test.YtfollffpibmgcaaGreatDoorP31
set_option linter.unusedVariables false
set_option maxRecDepth 100000
namespace Go.Proofs.YtfollffpibmgcaaGreatDoor
open Go.RowKit
def decN (b0 b1 b2 b3 : Nat) (k1 k2 k3 : Bool) : Nat × Nat :=
 if b0 < 0x80 then (b0, 1)
 else if b0 / 32 == 6 && (k1 && b1 / 64 == 2) then
  let c := (b0 % 32) * 64 + b1 % 64
  if c ≥ 0x80 then (c, 2) else (Utf8.runeError, 1)
 else if b0 / 16 == 14 && (k1 && b1 / 64 == 2) && (k2 && b2 / 64 == 2) then
  let c := (b0 % 16) * 4096 + (b1 % 64) * 64 + b2 % 64
  if c ≥ 0x800 && Utf8.valid c then (c, 3) else (Utf8.runeError, 1)
 else if b0 / 8 == 30 && (k1 && b1 / 64 == 2) && (k2 && b2 / 64 == 2) && (k3 && b3 / 64 == 2) then
  let c := (b0 % 8) * 262144 + (b1 % 64) * 4096 + (b2 % 64) * 64 + b3 % 64
  if c ≥ 0x10000 && Utf8.valid c then (c, 4) else (Utf8.runeError, 1)
 else (Utf8.runeError, 1)
def at! (s : ByteArray) (i : Nat) : Nat := (s.get! i).toNat
theorem decode_eq (s : ByteArray) (i : Nat) : Utf8.decode s i = decN (at! s i) (at! s (i + 1)) (at! s (i + 2)) (at! s (i + 3)) (decide (i + 1 < s.size)) (decide (i + 2 < s.size)) (decide (i + 3 < s.size)) := rfl
theorem at!_eq (s : ByteArray) (i : Nat) (h : i < s.size) : at! s i = (s[i]).toNat := by
 unfold at!
 have : s.get! i = s[i] := by simp [ByteArray.get!, getElem!_pos, h]; rfl
 rw [this]
theorem at!_lt (s : ByteArray) (i : Nat) : at! s i < 256 := (s.get! i).toNat_lt
def okN (b0 b1 b2 b3 : Nat) (k1 k2 k3 : Bool) : Bool := (decN b0 b1 b2 b3 k1 k2 k3).1 != 65533 || (k1 && k2 && b0 == 239 && b1 == 191 && b2 == 189)
theorem dec1 (b0 b1 b2 b3 : Nat) (k1 k2 k3 : Bool) (h : b0 < 128) : decN b0 b1 b2 b3 k1 k2 k3 = (b0, 1) ∧ okN b0 b1 b2 b3 k1 k2 k3 = true := by
 have e : decN b0 b1 b2 b3 k1 k2 k3 = (b0, 1) := by simp [decN, h]
 refine ⟨e, ?_⟩
 unfold okN
 rw [e]
 simp; omega
theorem dec2 (b0 b1 b2 b3 : Nat) (k2 k3 : Bool) (h : 194 ≤ b0 ∧ b0 < 224) (h1 : 128 ≤ b1 ∧ b1 ≤ 191) : decN b0 b1 b2 b3 true k2 k3 = ((b0 % 32) * 64 + b1 % 64, 2) ∧ okN b0 b1 b2 b3 true k2 k3 = true := by
 have a : ¬ b0 < 128 := by omega
 have b : b0 / 32 = 6 := by omega
 have c : b1 / 64 = 2 := by omega
 have d : 128 ≤ (b0 % 32) * 64 + b1 % 64 := by omega
 have e : decN b0 b1 b2 b3 true k2 k3 = ((b0 % 32) * 64 + b1 % 64, 2) := by simp [decN, a, b, c, d]
 refine ⟨e, ?_⟩
 unfold okN
 rw [e]
 simp; omega
theorem dec3 (b0 b1 b2 b3 : Nat) (k3 : Bool) (h0 : b0 < 240) (h : 224 ≤ b0) (h1 : 128 ≤ b1 ∧ b1 ≤ 191) (h2 : 128 ≤ b2 ∧ b2 ≤ 191) (hlo : b0 = 224 → 160 ≤ b1) (hhi : b0 = 237 → b1 ≤ 159) :
  decN b0 b1 b2 b3 true true k3 = ((b0 % 16) * 4096 + (b1 % 64) * 64 + b2 % 64, 3) ∧ okN b0 b1 b2 b3 true true k3 = true := by
 have a : ¬ b0 < 128 := by omega
 have b : ¬ b0 / 32 = 6 := by omega
 have b' : b0 / 16 = 14 := by omega
 have c : b1 / 64 = 2 := by omega
 have c2 : b2 / 64 = 2 := by omega
 have d : 2048 ≤ (b0 % 16) * 4096 + (b1 % 64) * 64 + b2 % 64 := by omega
 have v : Utf8.valid (((b0 % 16) * 4096 + (b1 % 64) * 64 + b2 % 64 : Nat) : Int) = true := by
  simp only [Utf8.valid, Bool.or_eq_true, Bool.and_eq_true, decide_eq_true_eq]
  omega
 have e : decN b0 b1 b2 b3 true true k3 = ((b0 % 16) * 4096 + (b1 % 64) * 64 + b2 % 64, 3) := by
  unfold decN
  simp only [a, b', c, c2, if_false, beq_self_eq_true, Bool.and_true, if_true]
  rw [if_neg (by simp [b]), v]
  simp [d]
 refine ⟨e, ?_⟩
 unfold okN
 rw [e]
 simp only [bne_iff_ne, ne_eq, Bool.or_eq_true, Bool.and_eq_true, beq_iff_eq, Bool.true_and]
 omega
theorem dec4 (b0 b1 b2 b3 : Nat) (h0 : b0 < 245) (h : 240 ≤ b0) (h1 : 128 ≤ b1 ∧ b1 ≤ 191) (h2 : 128 ≤ b2 ∧ b2 ≤ 191) (h3 : 128 ≤ b3 ∧ b3 ≤ 191) (hlo : b0 = 240 → 144 ≤ b1) (hhi : b0 = 244 → b1 ≤ 143) :
  decN b0 b1 b2 b3 true true true = ((b0 % 8) * 262144 + (b1 % 64) * 4096 + (b2 % 64) * 64 + b3 % 64, 4) ∧ okN b0 b1 b2 b3 true true true = true := by
 have a : ¬ b0 < 128 := by omega
 have b : ¬ b0 / 32 = 6 := by omega
 have b' : ¬ b0 / 16 = 14 := by omega
 have b'' : b0 / 8 = 30 := by omega
 have c : b1 / 64 = 2 := by omega
 have c2 : b2 / 64 = 2 := by omega
 have c3 : b3 / 64 = 2 := by omega
 have d : 65536 ≤ (b0 % 8) * 262144 + (b1 % 64) * 4096 + (b2 % 64) * 64 + b3 % 64 := by omega
 have v : Utf8.valid (((b0 % 8) * 262144 + (b1 % 64) * 4096 + (b2 % 64) * 64 + b3 % 64 : Nat) : Int) = true := by
  simp only [Utf8.valid, Bool.or_eq_true, Bool.and_eq_true, decide_eq_true_eq]
  omega
 have e : decN b0 b1 b2 b3 true true true = ((b0 % 8) * 262144 + (b1 % 64) * 4096 + (b2 % 64) * 64 + b3 % 64, 4) := by
  unfold decN
  simp only [a, b'', c, c2, c3, if_false, beq_self_eq_true, Bool.and_true, if_true]
  rw [if_neg (by simp [b]), if_neg (by simp [b']), v]
  simp [d]
 refine ⟨e, ?_⟩
 unfold okN
 rw [e]
 simp only [bne_iff_ne, ne_eq, Bool.or_eq_true, Bool.and_eq_true, beq_iff_eq, Bool.true_and]
 omega
theorem dec0 (b0 b1 b2 b3 : Nat) (k1 k2 k3 : Bool) (h0 : 128 ≤ b0) (h255 : b0 < 256) (hb1 : b1 < 256) (hb2 : b2 < 256) (hb3 : b3 < 256)
  (h2 : 194 ≤ b0 → b0 < 224 → ¬ (k1 = true ∧ 128 ≤ b1 ∧ b1 ≤ 191))
  (h3 : 224 ≤ b0 → b0 < 240 → ¬ (k1 = true ∧ k2 = true ∧ 128 ≤ b1 ∧ b1 ≤ 191 ∧ 128 ≤ b2 ∧ b2 ≤ 191 ∧ (b0 = 224 → 160 ≤ b1) ∧ (b0 = 237 → b1 ≤ 159)))
  (h4 : 240 ≤ b0 → b0 < 245 → ¬ (k1 = true ∧ k2 = true ∧ k3 = true ∧ 128 ≤ b1 ∧ b1 ≤ 191 ∧ 128 ≤ b2 ∧ b2 ≤ 191 ∧ 128 ≤ b3 ∧ b3 ≤ 191 ∧ (b0 = 240 → 144 ≤ b1) ∧ (b0 = 244 → b1 ≤ 143))) :
  decN b0 b1 b2 b3 k1 k2 k3 = (65533, 1) ∧ okN b0 b1 b2 b3 k1 k2 k3 = false := by
 have a : ¬ b0 < 128 := by omega
 have e : decN b0 b1 b2 b3 k1 k2 k3 = (65533, 1) := by
  unfold decN
  rw [if_neg a]
  split
  ·rename_i hc
   simp only [Bool.and_eq_true, beq_iff_eq] at hc
   obtain ⟨c1, c2, c3⟩ := hc
   have := h2
   simp only [c2, true_and] at this
   rw [if_neg (by omega)]; rfl
  ·split
   ·rename_i hc
    simp only [Bool.and_eq_true, beq_iff_eq] at hc
    obtain ⟨⟨c1, c2, c3⟩, c4, c5⟩ := hc
    have := h3
    simp only [c2, c4, true_and] at this
    simp only
    rw [if_neg ?_]
    ·rfl
    ·simp only [Utf8.valid, Bool.or_eq_true, Bool.and_eq_true, decide_eq_true_eq]
     omega
   ·split
    ·rename_i hc
     simp only [Bool.and_eq_true, beq_iff_eq] at hc
     obtain ⟨⟨⟨c1, c2, c3⟩, c4, c5⟩, c6, c7⟩ := hc
     have := h4
     simp only [c2, c4, c6, true_and] at this
     simp only
     rw [if_neg ?_]
     ·rfl
     ·simp only [Utf8.valid, Bool.or_eq_true, Bool.and_eq_true, decide_eq_true_eq]
      omega
    ·rfl
 refine ⟨e, ?_⟩
 unfold okN
 rw [e]
 simp only [bne_self_eq_false, Bool.false_or]
 cases k1
 ·simp
 ·cases k2
  ·simp
  ·simp only [Bool.true_and, Bool.and_eq_false_iff, beq_eq_false_iff_ne, ne_eq]
   simp only [true_and] at h3
   omega
def okAt (s : ByteArray) (i : Nat) : Bool := okN (at! s i) (at! s (i + 1)) (at! s (i + 2)) (at! s (i + 3)) (decide (i + 1 < s.size)) (decide (i + 2 < s.size)) (decide (i + 3 < s.size))
theorem glyph_ret {Q : Ending → World → Prop} {a : Act} {W : World} {b : Nat} {x y z : Int} {ok : Bool} (h4 : a.tmps.getD 4 undef = .pointer (some ⟨b, 0, none⟩)) (h5 : a.tmps.getD 5 undef = .bool ok) (hd : a.defers = [])
  (hb : Blk W b #[.int .i64 x, .int .i64 y, .int .i64 z] 115) (hQ : Q (.returned (.tuple #[.agg #[.int .i64 x, .int .i64 y, .int .i64 z], .bool ok])) W) : bodyPost Tryz.prog Tryz.f43 Q Exit.ret a W := by
 have r0 : W.cell? ⟨b, 0, none⟩ = some (.int .i64 x) := hb.cell 0
 have r1 : W.cell? ⟨b, 1, none⟩ = some (.int .i64 y) := hb.cell 1
 have r2 : W.cell? ⟨b, 2, none⟩ = some (.int .i64 z) := hb.cell 2
 have s4 : a.tmps[4]?.getD undef = .pointer (some ⟨b, 0, none⟩) := by simpa using h4
 have s5 : a.tmps[5]?.getD undef = .bool ok := by simpa using h5
 exact bodyPost_ret (v := .tuple #[.agg #[.int .i64 x, .int .i64 y, .int .i64 z], .bool ok]) (by simp [results, Tryz.results43, go_sem, s4, s5, r0, r1, r2]) hd hQ
theorem glyph1 (s : ByteArray) (i : Nat) (w : World) (hi : i < s.size) (hs : s.size ≤ 1000) (hc : (s[i]).toNat < 128) :
  Calls Tryz.prog 43 #[.string s, .int .i64 i] w fun e w' => e = .returned (.tuple #[.agg #[.int .i64 (s[i]).toNat, .int .i64 i, .int .i64 1], .bool true]) ∧ Kept Nil w w' := by
 have hn : needOf ((s[i]).toNat : Int) = (1, 0, 0) := by unfold needOf; rw [if_pos (by omega)]
 have hiI : (i : Int) < (s.size : Int) := by omega
 go_enter Tryz.func43, Tryz.ntmps43
 go_wp2_with fail
 refine (need_any _ _).mono ?_
 rintro e w1 ⟨rfl, rfl⟩
 rw [hn]
 have hw := wrap64_byte s[i]
 clear hn
 go_wp2_with fail
 exact glyph_ret (b := w.heap.size) rfl rfl rfl (Blk.new _ _ _) ⟨rfl, (Kept.refl _ _).alloc _⟩
theorem glyphA (s : ByteArray) (i : Nat) (w : World) (hi : i < s.size) (hs : s.size ≤ 1000) (hn : needOf ((s[i]).toNat : Int) = (0, 0, 0)) :
  Calls Tryz.prog 43 #[.string s, .int .i64 i] w fun e w' => e = .returned (.tuple #[.agg #[.int .i64 65533, .int .i64 i, .int .i64 1], .bool false]) ∧ Kept Nil w w' := by
 have hiI : (i : Int) < (s.size : Int) := by omega
 go_enter Tryz.func43, Tryz.ntmps43
 go_wp2_with fail
 refine (need_any _ _).mono ?_
 rintro e w1 ⟨rfl, rfl⟩
 rw [hn]
 clear hn
 go_wp2_with fail
 exact glyph_ret (b := w.heap.size) rfl rfl rfl ((Blk.new _ _ _).alloc _) ⟨rfl, ((Kept.refl _ _).alloc _).alloc _⟩
theorem glyphB (s : ByteArray) (i n : Nat) (lo hi' : Int) (w : World) (hi : i < s.size) (hs : s.size ≤ 1000) (hn : needOf ((s[i]).toNat : Int) = ((n : Int), lo, hi')) (h2 : 2 ≤ n) (h4 : n ≤ 4) (hbig : s.size < i + n) :
  Calls Tryz.prog 43 #[.string s, .int .i64 i] w fun e w' => e = .returned (.tuple #[.agg #[.int .i64 65533, .int .i64 i, .int .i64 1], .bool false]) ∧ Kept Nil w w' := by
 have hiI : (i : Int) < (s.size : Int) := by omega
 have hn1 : ((n : Int) == 1) = false := by simp; omega
 have hn0 : ((n : Int) == 0) = false := by simp; omega
 have hb : (s.size : Int) < (i : Int) + (n : Int) := by omega
 go_enter Tryz.func43, Tryz.ntmps43
 go_wp2_with fail
 refine (need_any _ _).mono ?_
 rintro e w1 ⟨rfl, rfl⟩
 rw [hn]
 clear hn
 go_wp2_with fail
 exact glyph_ret (b := w.heap.size) rfl rfl rfl ((Blk.new _ _ _).alloc _) ⟨rfl, ((Kept.refl _ _).alloc _).alloc _⟩
theorem glyphC (s : ByteArray) (i n : Nat) (lo hi' : Int) (w : World) (hi : i < s.size) (hs : s.size ≤ 1000) (hn : needOf ((s[i]).toNat : Int) = ((n : Int), lo, hi')) (h2 : 2 ≤ n) (h4 : n ≤ 4) (hfit : i + n ≤ s.size) (hlo : ((s[i + 1]).toNat : Int) < lo ∨ hi' < ((s[i + 1]).toNat : Int)) :
  Calls Tryz.prog 43 #[.string s, .int .i64 i] w fun e w' => e = .returned (.tuple #[.agg #[.int .i64 65533, .int .i64 i, .int .i64 1], .bool false]) ∧ Kept Nil w w' := by
 have hiI : (i : Int) < (s.size : Int) := by omega
 have hi1 : i + 1 < s.size := by omega
 have hn1 : ((n : Int) == 1) = false := by simp; omega
 have hn0 : ((n : Int) == 0) = false := by simp; omega
 have hb : (i : Int) + (n : Int) ≤ (s.size : Int) := by omega
 have hi1I : (i : Int) + 1 < (s.size : Int) := by omega
 by_cases hl : ((s[i + 1]).toNat : Int) < lo
 ·go_enter Tryz.func43, Tryz.ntmps43
  go_wp2_with fail
  refine (need_any _ _).mono ?_
  rintro e w1 ⟨rfl, rfl⟩
  rw [hn]
  clear hn hlo
  go_wp2_with fail
  exact glyph_ret (b := w.heap.size) rfl rfl rfl ((Blk.new _ _ _).alloc _) ⟨rfl, ((Kept.refl _ _).alloc _).alloc _⟩
 ·have hh : hi' < ((s[i + 1]).toNat : Int) := by omega
  have hl' : lo ≤ ((s[i + 1]).toNat : Int) := by omega
  clear hl hlo
  go_enter Tryz.func43, Tryz.ntmps43
  go_wp2_with fail
  refine (need_any _ _).mono ?_
  rintro e w1 ⟨rfl, rfl⟩
  rw [hn]
  clear hn
  go_wp2_with fail
  exact glyph_ret (b := w.heap.size) rfl rfl rfl ((Blk.new _ _ _).alloc _) ⟨rfl, ((Kept.refl _ _).alloc _).alloc _⟩
theorem glyph2 (s : ByteArray) (i : Nat) (lo hi' : Int) (w : World) (hi : i < s.size) (hs : s.size ≤ 1000) (hn : needOf ((s[i]).toNat : Int) = (2, lo, hi')) (hfit : i + 1 < s.size) (hlo : lo ≤ ((s[i + 1]).toNat : Int)) (hhi : ((s[i + 1]).toNat : Int) ≤ hi') (h128 : 128 ≤ lo) (h191 : hi' ≤ 191) :
  Calls Tryz.prog 43 #[.string s, .int .i64 i] w fun e w' => e = .returned (.tuple #[.agg #[.int .i64 (64 * (((s[i]).toNat : Int) % 32) + ((s[i + 1]).toNat : Int) % 64), .int .i64 i, .int .i64 2], .bool true]) ∧ Kept Nil w w' := by
 have hiI : (i : Int) < (s.size : Int) := by omega
 have hi1I : (i : Int) + 1 < (s.size : Int) := by omega
 have hfitI : (i : Int) + 2 ≤ (s.size : Int) := by omega
 have hw := wrap64_byte s[i]
 have hw1 := wrap64_byte s[i + 1]
 have t1 : tailOf ((s[i + 1]).toNat : Int) = true := by simp [tailOf]; omega
 go_enter Tryz.func43, Tryz.ntmps43
 go_wp2_with fail
 refine (need_any _ _).mono ?_
 rintro e w1 ⟨rfl, rfl⟩
 rw [hn]
 clear hn
 go_wp2_with fail
 go_region
 go_wp2_with fail
 refine wp_loop_rounds 2 ?_
 rw [rounds_succ]
 go_wp2_with fail
 refine (tail_any _ _).mono ?_
 rintro e w2 ⟨rfl, rfl⟩
 rw [t1]
 go_wp2_with fail
 rw [rounds_succ]
 go_wp2_with fail
 exact glyph_ret (b := w.heap.size) rfl rfl rfl ((Blk.new _ _ _).alloc _).drew ⟨rfl, (((Kept.refl _ _).alloc _).alloc _).drew⟩
theorem glyph3 (s : ByteArray) (i : Nat) (lo hi' : Int) (w : World) (hi : i < s.size) (hs : s.size ≤ 1000) (hn : needOf ((s[i]).toNat : Int) = (3, lo, hi')) (hfit : i + 2 < s.size) (hlo : lo ≤ ((s[i + 1]).toNat : Int)) (hhi : ((s[i + 1]).toNat : Int) ≤ hi') (h128 : 128 ≤ lo) (h191 : hi' ≤ 191) (t2 : tailOf ((s[i + 2]).toNat : Int) = true) :
  Calls Tryz.prog 43 #[.string s, .int .i64 i] w fun e w' => e = .returned (.tuple #[.agg #[.int .i64 (64 * (64 * (((s[i]).toNat : Int) % 16) + ((s[i + 1]).toNat : Int) % 64) + ((s[i + 2]).toNat : Int) % 64), .int .i64 i, .int .i64 3], .bool true]) ∧ Kept Nil w w' := by
 have hiI : (i : Int) < (s.size : Int) := by omega
 have hi1I : (i : Int) + 1 < (s.size : Int) := by omega
 have hi2I : (i : Int) + 2 < (s.size : Int) := by omega
 have hfitI : (i : Int) + 3 ≤ (s.size : Int) := by omega
 have hw := wrap64_byte s[i]
 have hw1 := wrap64_byte s[i + 1]
 have hw2 := wrap64_byte s[i + 2]
 have t1 : tailOf ((s[i + 1]).toNat : Int) = true := by simp [tailOf]; omega
 go_enter Tryz.func43, Tryz.ntmps43
 go_wp2_with fail
 refine (need_any _ _).mono ?_
 rintro e w1 ⟨rfl, rfl⟩
 rw [hn]
 clear hn
 go_wp2_with fail
 go_region
 go_wp2_with fail
 refine wp_loop_rounds 3 ?_
 rw [rounds_succ]
 go_wp2_with fail
 refine (tail_any _ _).mono ?_
 rintro e w2 ⟨rfl, rfl⟩
 rw [t1]
 go_wp2_with fail
 rw [rounds_succ]
 go_wp2_with fail
 refine (tail_any _ _).mono ?_
 rintro e w3 ⟨rfl, rfl⟩
 rw [t2]
 go_wp2_with fail
 rw [rounds_succ]
 go_wp2_with fail
 exact glyph_ret (b := w.heap.size) rfl rfl rfl ((Blk.new _ _ _).alloc _).drew ⟨rfl, (((Kept.refl _ _).alloc _).alloc _).drew⟩
theorem glyph3x2 (s : ByteArray) (i : Nat) (lo hi' : Int) (w : World) (hi : i < s.size) (hs : s.size ≤ 1000) (hn : needOf ((s[i]).toNat : Int) = (3, lo, hi')) (hfit : i + 2 < s.size) (hlo : lo ≤ ((s[i + 1]).toNat : Int)) (hhi : ((s[i + 1]).toNat : Int) ≤ hi') (h128 : 128 ≤ lo) (h191 : hi' ≤ 191) (t2 : tailOf ((s[i + 2]).toNat : Int) = false) :
  Calls Tryz.prog 43 #[.string s, .int .i64 i] w fun e w' => e = .returned (.tuple #[.agg #[.int .i64 65533, .int .i64 i, .int .i64 1], .bool false]) ∧ Kept Nil w w' := by
 have hiI : (i : Int) < (s.size : Int) := by omega
 have hi1I : (i : Int) + 1 < (s.size : Int) := by omega
 have hi2I : (i : Int) + 2 < (s.size : Int) := by omega
 have hfitI : (i : Int) + 3 ≤ (s.size : Int) := by omega
 have hw := wrap64_byte s[i]
 have hw1 := wrap64_byte s[i + 1]
 have hw2 := wrap64_byte s[i + 2]
 have t1 : tailOf ((s[i + 1]).toNat : Int) = true := by simp [tailOf]; omega
 go_enter Tryz.func43, Tryz.ntmps43
 go_wp2_with fail
 refine (need_any _ _).mono ?_
 rintro e w1 ⟨rfl, rfl⟩
 rw [hn]
 clear hn
 go_wp2_with fail
 go_region
 go_wp2_with fail
 refine wp_loop_rounds 3 ?_
 rw [rounds_succ]
 go_wp2_with fail
 refine (tail_any _ _).mono ?_
 rintro e w2 ⟨rfl, rfl⟩
 rw [t1]
 go_wp2_with fail
 rw [rounds_succ]
 go_wp2_with fail
 refine (tail_any _ _).mono ?_
 rintro e w3 ⟨rfl, rfl⟩
 rw [t2]
 go_wp2_with fail
 exact glyph_ret (b := w.heap.size) rfl rfl rfl ((Blk.new _ _ _).alloc _).drew ⟨rfl, (((Kept.refl _ _).alloc _).alloc _).drew⟩
theorem glyph4 (s : ByteArray) (i : Nat) (lo hi' : Int) (w : World) (hi : i < s.size) (hs : s.size ≤ 1000) (hn : needOf ((s[i]).toNat : Int) = (4, lo, hi')) (hfit : i + 3 < s.size) (hlo : lo ≤ ((s[i + 1]).toNat : Int)) (hhi : ((s[i + 1]).toNat : Int) ≤ hi') (h128 : 128 ≤ lo) (h191 : hi' ≤ 191) (t2 : tailOf ((s[i + 2]).toNat : Int) = true) (t3 : tailOf ((s[i + 3]).toNat : Int) = true) :
  Calls Tryz.prog 43 #[.string s, .int .i64 i] w fun e w' => e = .returned (.tuple #[.agg #[.int .i64 (64 * (64 * (64 * (((s[i]).toNat : Int) % 8) + ((s[i + 1]).toNat : Int) % 64) + ((s[i + 2]).toNat : Int) % 64) + ((s[i + 3]).toNat : Int) % 64), .int .i64 i, .int .i64 4], .bool true]) ∧ Kept Nil w w' := by
 have hiI : (i : Int) < (s.size : Int) := by omega
 have hi1I : (i : Int) + 1 < (s.size : Int) := by omega
 have hi2I : (i : Int) + 2 < (s.size : Int) := by omega
 have hi3I : (i : Int) + 3 < (s.size : Int) := by omega
 have hfitI : (i : Int) + 4 ≤ (s.size : Int) := by omega
 have hw := wrap64_byte s[i]
 have hw1 := wrap64_byte s[i + 1]
 have hw2 := wrap64_byte s[i + 2]
 have hw3 := wrap64_byte s[i + 3]
 have t1 : tailOf ((s[i + 1]).toNat : Int) = true := by simp [tailOf]; omega
 go_enter Tryz.func43, Tryz.ntmps43
 go_wp2_with fail
 refine (need_any _ _).mono ?_
 rintro e w1 ⟨rfl, rfl⟩
 rw [hn]
 clear hn
 go_wp2_with fail
 go_region
 go_wp2_with fail
 refine wp_loop_rounds 4 ?_
 rw [rounds_succ]
 go_wp2_with fail
 refine (tail_any _ _).mono ?_
 rintro e w2 ⟨rfl, rfl⟩
 rw [t1]
 go_wp2_with fail
 rw [rounds_succ]
 go_wp2_with fail
 refine (tail_any _ _).mono ?_
 rintro e w3 ⟨rfl, rfl⟩
 rw [t2]
 go_wp2_with fail
 rw [rounds_succ]
 go_wp2_with fail
 refine (tail_any _ _).mono ?_
 rintro e w4 ⟨rfl, rfl⟩
 rw [t3]
 go_wp2_with fail
 rw [rounds_succ]
 go_wp2_with fail
 exact glyph_ret (b := w.heap.size) rfl rfl rfl ((Blk.new _ _ _).alloc _).drew ⟨rfl, (((Kept.refl _ _).alloc _).alloc _).drew⟩
theorem glyph4x2 (s : ByteArray) (i : Nat) (lo hi' : Int) (w : World) (hi : i < s.size) (hs : s.size ≤ 1000) (hn : needOf ((s[i]).toNat : Int) = (4, lo, hi')) (hfit : i + 3 < s.size) (hlo : lo ≤ ((s[i + 1]).toNat : Int)) (hhi : ((s[i + 1]).toNat : Int) ≤ hi') (h128 : 128 ≤ lo) (h191 : hi' ≤ 191) (t2 : tailOf ((s[i + 2]).toNat : Int) = false) :
  Calls Tryz.prog 43 #[.string s, .int .i64 i] w fun e w' => e = .returned (.tuple #[.agg #[.int .i64 65533, .int .i64 i, .int .i64 1], .bool false]) ∧ Kept Nil w w' := by
 have hiI : (i : Int) < (s.size : Int) := by omega
 have hi1I : (i : Int) + 1 < (s.size : Int) := by omega
 have hi2I : (i : Int) + 2 < (s.size : Int) := by omega
 have hi3I : (i : Int) + 3 < (s.size : Int) := by omega
 have hfitI : (i : Int) + 4 ≤ (s.size : Int) := by omega
 have hw := wrap64_byte s[i]
 have hw1 := wrap64_byte s[i + 1]
 have hw2 := wrap64_byte s[i + 2]
 have hw3 := wrap64_byte s[i + 3]
 have t1 : tailOf ((s[i + 1]).toNat : Int) = true := by simp [tailOf]; omega
 go_enter Tryz.func43, Tryz.ntmps43
 go_wp2_with fail
 refine (need_any _ _).mono ?_
 rintro e w1 ⟨rfl, rfl⟩
 rw [hn]
 clear hn
 go_wp2_with fail
 go_region
 go_wp2_with fail
 refine wp_loop_rounds 4 ?_
 rw [rounds_succ]
 go_wp2_with fail
 refine (tail_any _ _).mono ?_
 rintro e w2 ⟨rfl, rfl⟩
 rw [t1]
 go_wp2_with fail
 rw [rounds_succ]
 go_wp2_with fail
 refine (tail_any _ _).mono ?_
 rintro e w3 ⟨rfl, rfl⟩
 rw [t2]
 go_wp2_with fail
 exact glyph_ret (b := w.heap.size) rfl rfl rfl ((Blk.new _ _ _).alloc _).drew ⟨rfl, (((Kept.refl _ _).alloc _).alloc _).drew⟩
theorem glyph4x3 (s : ByteArray) (i : Nat) (lo hi' : Int) (w : World) (hi : i < s.size) (hs : s.size ≤ 1000) (hn : needOf ((s[i]).toNat : Int) = (4, lo, hi')) (hfit : i + 3 < s.size) (hlo : lo ≤ ((s[i + 1]).toNat : Int)) (hhi : ((s[i + 1]).toNat : Int) ≤ hi') (h128 : 128 ≤ lo) (h191 : hi' ≤ 191) (t2 : tailOf ((s[i + 2]).toNat : Int) = true) (t3 : tailOf ((s[i + 3]).toNat : Int) = false) :
  Calls Tryz.prog 43 #[.string s, .int .i64 i] w fun e w' => e = .returned (.tuple #[.agg #[.int .i64 65533, .int .i64 i, .int .i64 1], .bool false]) ∧ Kept Nil w w' := by
 have hiI : (i : Int) < (s.size : Int) := by omega
 have hi1I : (i : Int) + 1 < (s.size : Int) := by omega
 have hi2I : (i : Int) + 2 < (s.size : Int) := by omega
 have hi3I : (i : Int) + 3 < (s.size : Int) := by omega
 have hfitI : (i : Int) + 4 ≤ (s.size : Int) := by omega
 have hw := wrap64_byte s[i]
 have hw1 := wrap64_byte s[i + 1]
 have hw2 := wrap64_byte s[i + 2]
 have hw3 := wrap64_byte s[i + 3]
 have t1 : tailOf ((s[i + 1]).toNat : Int) = true := by simp [tailOf]; omega
 go_enter Tryz.func43, Tryz.ntmps43
 go_wp2_with fail
 refine (need_any _ _).mono ?_
 rintro e w1 ⟨rfl, rfl⟩
 rw [hn]
 clear hn
 go_wp2_with fail
 go_region
 go_wp2_with fail
 refine wp_loop_rounds 4 ?_
 rw [rounds_succ]
 go_wp2_with fail
 refine (tail_any _ _).mono ?_
 rintro e w2 ⟨rfl, rfl⟩
 rw [t1]
 go_wp2_with fail
 rw [rounds_succ]
 go_wp2_with fail
 refine (tail_any _ _).mono ?_
 rintro e w3 ⟨rfl, rfl⟩
 rw [t2]
 go_wp2_with fail
 rw [rounds_succ]
 go_wp2_with fail
 refine (tail_any _ _).mono ?_
 rintro e w4 ⟨rfl, rfl⟩
 rw [t3]
 go_wp2_with fail
 exact glyph_ret (b := w.heap.size) rfl rfl rfl ((Blk.new _ _ _).alloc _).drew ⟨rfl, (((Kept.refl _ _).alloc _).alloc _).drew⟩
set_option maxRecDepth 100000
theorem need_cases (c : Nat) (h : c < 256) : (c < 128 ∧ needOf c = (1, 0, 0)) ∨ (194 ≤ c ∧ c < 224 ∧ needOf c = (2, 128, 191)) ∨
  (224 ≤ c ∧ c < 240 ∧ ∃ lo hi : Int, needOf c = (3, lo, hi) ∧ 128 ≤ lo ∧ hi ≤ 191 ∧ (lo = if c = 224 then 160 else 128) ∧ (hi = if c = 237 then 159 else 191)) ∨
  (240 ≤ c ∧ c < 245 ∧ ∃ lo hi : Int, needOf c = (4, lo, hi) ∧ 128 ≤ lo ∧ hi ≤ 191 ∧ (lo = if c = 240 then 144 else 128) ∧ (hi = if c = 244 then 143 else 191)) ∨
  (128 ≤ c ∧ (c < 194 ∨ 245 ≤ c) ∧ needOf c = (0, 0, 0)) := by
 by_cases h1 : c < 128
 ·left; exact ⟨h1, by unfold needOf; rw [if_pos (by omega)]⟩
 by_cases h2 : 194 ≤ c ∧ c < 224
 ·right; left; exact ⟨h2.1, h2.2, by unfold needOf; rw [if_neg (by omega), if_pos (by omega)]⟩
 by_cases h3 : 224 ≤ c ∧ c < 240
 ·right; right; left
  refine ⟨h3.1, h3.2, ?_⟩
  by_cases e1 : c = 224
  ·exact ⟨160, 191, by unfold needOf; rw [if_neg (by omega), if_neg (by omega), if_pos (by omega)], by omega, by omega, by simp [e1], by simp [e1]⟩
  by_cases e2 : c = 237
  ·exact ⟨128, 159, by unfold needOf; rw [if_neg (by omega), if_neg (by omega), if_neg (by omega), if_pos (by omega)], by omega, by omega, by simp [e2], by simp [e2]⟩
  exact ⟨128, 191, by unfold needOf; rw [if_neg (by omega), if_neg (by omega), if_neg (by omega), if_neg (by omega), if_pos (by omega)], by omega, by omega, by simp [e1], by simp [e2]⟩
 by_cases h4 : 240 ≤ c ∧ c < 245
 ·right; right; right; left
  refine ⟨h4.1, h4.2, ?_⟩
  by_cases e1 : c = 240
  ·exact ⟨144, 191, by unfold needOf; rw [if_neg (by omega), if_neg (by omega), if_neg (by omega), if_neg (by omega), if_neg (by omega), if_pos (by omega)], by omega, by omega, by simp [e1], by simp [e1]⟩
  by_cases e2 : c = 244
  ·exact ⟨128, 143, by unfold needOf; rw [if_neg (by omega), if_neg (by omega), if_neg (by omega), if_neg (by omega), if_neg (by omega), if_neg (by omega), if_neg (by omega), if_pos (by omega)], by omega, by omega, by simp [e2], by simp [e2]⟩
  exact ⟨128, 191, by unfold needOf; rw [if_neg (by omega), if_neg (by omega), if_neg (by omega), if_neg (by omega), if_neg (by omega), if_neg (by omega), if_pos (by omega)], by omega, by omega, by simp [e1], by simp [e2]⟩
 right; right; right; right
 exact ⟨by omega, by omega, by unfold needOf; rw [if_neg (by omega), if_neg (by omega), if_neg (by omega), if_neg (by omega), if_neg (by omega), if_neg (by omega), if_neg (by omega), if_neg (by omega)]⟩
theorem glyph_bad (s : ByteArray) (i : Nat) (w : World) (hd : Utf8.decode s i = (65533, 1)) (ho : okAt s i = false)
  (h : Calls Tryz.prog 43 #[.string s, .int .i64 i] w fun e w' => e = .returned (.tuple #[.agg #[.int .i64 65533, .int .i64 i, .int .i64 1], .bool false]) ∧ Kept Nil w w') :
  Calls Tryz.prog 43 #[.string s, .int .i64 i] w fun e w' => e = .returned (.tuple #[.agg #[.int .i64 (Utf8.decode s i).1, .int .i64 i, .int .i64 (Utf8.decode s i).2], .bool (okAt s i)]) ∧ Kept Nil w w' := by
 rw [hd, ho]; exact h
theorem glyph_good (s : ByteArray) (i : Nat) (w : World) {r : Int} {n : Nat} {m : Int} (hd : ((Utf8.decode s i).1 : Int) = r) (hd2 : (Utf8.decode s i).2 = n) (hm : m = n) (ho : okAt s i = true)
  (h : Calls Tryz.prog 43 #[.string s, .int .i64 i] w fun e w' => e = .returned (.tuple #[.agg #[.int .i64 r, .int .i64 i, .int .i64 m], .bool true]) ∧ Kept Nil w w') :
  Calls Tryz.prog 43 #[.string s, .int .i64 i] w fun e w' => e = .returned (.tuple #[.agg #[.int .i64 (Utf8.decode s i).1, .int .i64 i, .int .i64 (Utf8.decode s i).2], .bool (okAt s i)]) ∧ Kept Nil w w' := by
 rw [hd, hd2, ← hm, ho]; exact h
theorem glyph_any (s : ByteArray) (i : Nat) (w : World) (hi : i < s.size) (hs : s.size ≤ 1000) :
  Calls Tryz.prog 43 #[.string s, .int .i64 i] w fun e w' => e = .returned (.tuple #[.agg #[.int .i64 (Utf8.decode s i).1, .int .i64 i, .int .i64 (Utf8.decode s i).2], .bool (okAt s i)]) ∧ Kept Nil w w' := by
 have e0 := at!_eq s i hi
 have l0 := at!_lt s i
 have l1 := at!_lt s (i + 1)
 have l2 := at!_lt s (i + 2)
 have l3 := at!_lt s (i + 3)
 have hde := decode_eq s i
 have hok : okAt s i = okN (at! s i) (at! s (i + 1)) (at! s (i + 2)) (at! s (i + 3)) (decide (i + 1 < s.size)) (decide (i + 2 < s.size)) (decide (i + 3 < s.size)) := rfl
 rcases need_cases (at! s i) l0 with ⟨h1, hn⟩ | ⟨h1, h2, hn⟩ | ⟨h1, h2, lo, hi', hn, hlo, hhi, elo, ehi⟩ | ⟨h1, h2, lo, hi', hn, hlo, hhi, elo, ehi⟩ | ⟨h1, h2, hn⟩
 ·obtain ⟨d, o⟩ := dec1 (at! s i) (at! s (i + 1)) (at! s (i + 2)) (at! s (i + 3)) (decide (i + 1 < s.size)) (decide (i + 2 < s.size)) (decide (i + 3 < s.size)) h1
  rw [← hde] at d
  rw [← hok] at o
  exact glyph_good s i w (r := (s[i]).toNat) (n := 1) (by rw [d, e0]) (by rw [d]) rfl o (glyph1 s i w hi hs (by omega))
 ·rw [e0] at hn
  by_cases k1 : i + 1 < s.size
  ·have e1 := at!_eq s (i + 1) k1
   by_cases hb : 128 ≤ at! s (i + 1) ∧ at! s (i + 1) ≤ 191
   ·obtain ⟨d, o⟩ := dec2 (at! s i) (at! s (i + 1)) (at! s (i + 2)) (at! s (i + 3)) (decide (i + 2 < s.size)) (decide (i + 3 < s.size)) ⟨h1, h2⟩ hb
    rw [show true = decide (i + 1 < s.size) from by simp [k1]] at d o
    rw [← hde] at d
    rw [← hok] at o
    exact glyph_good s i w (n := 2) (by rw [d]; simp only [e0, e1]; omega) (by rw [d]) rfl (o.trans (by simp [k1])) (glyph2 s i 128 191 w hi hs hn k1 (by omega) (by omega) (by omega) (by omega))
   ·obtain ⟨d, o⟩ := dec0 (at! s i) (at! s (i + 1)) (at! s (i + 2)) (at! s (i + 3)) (decide (i + 1 < s.size)) (decide (i + 2 < s.size)) (decide (i + 3 < s.size)) (by omega) l0 l1 l2 l3 (fun _ _ h => hb h.2) (by omega) (by omega)
    rw [← hde] at d
    rw [← hok] at o
    exact glyph_bad s i w d o (glyphC s i 2 128 191 w hi hs hn (by omega) (by omega) (by omega) (by omega))
  ·obtain ⟨d, o⟩ := dec0 (at! s i) (at! s (i + 1)) (at! s (i + 2)) (at! s (i + 3)) (decide (i + 1 < s.size)) (decide (i + 2 < s.size)) (decide (i + 3 < s.size)) (by omega) l0 l1 l2 l3 (fun _ _ h => k1 (by simpa using h.1)) (by omega) (by omega)
   rw [← hde] at d
   rw [← hok] at o
   exact glyph_bad s i w d o (glyphB s i 2 128 191 w hi hs hn (by omega) (by omega) (by omega))
 ·rw [e0] at hn
  by_cases k2 : i + 2 < s.size
  ·have k1 : i + 1 < s.size := by omega
   have e1 := at!_eq s (i + 1) k1
   have e2 := at!_eq s (i + 2) k2
   by_cases hb : lo ≤ ((s[i + 1]).toNat : Int) ∧ ((s[i + 1]).toNat : Int) ≤ hi'
   ·cases t2 : tailOf ((s[i + 2]).toNat : Int)
    ·have t2' : ¬ (128 ≤ at! s (i + 2) ∧ at! s (i + 2) ≤ 191) := by simp [tailOf] at t2; omega
     obtain ⟨d, o⟩ := dec0 (at! s i) (at! s (i + 1)) (at! s (i + 2)) (at! s (i + 3)) (decide (i + 1 < s.size)) (decide (i + 2 < s.size)) (decide (i + 3 < s.size)) (by omega) l0 l1 l2 l3 (by omega) (fun _ _ h => t2' ⟨h.2.2.2.2.1, h.2.2.2.2.2.1⟩) (by omega)
     rw [← hde] at d
     rw [← hok] at o
     exact glyph_bad s i w d o (glyph3x2 s i lo hi' w hi hs hn k2 hb.1 hb.2 hlo hhi t2)
    ·have t2' : 128 ≤ at! s (i + 2) ∧ at! s (i + 2) ≤ 191 := by simp [tailOf] at t2; omega
     obtain ⟨d, o⟩ := dec3 (at! s i) (at! s (i + 1)) (at! s (i + 2)) (at! s (i + 3)) (decide (i + 3 < s.size)) h2 h1 (by omega) t2' (fun e => by rw [e] at elo; simp at elo; omega) (fun e => by rw [e] at ehi; simp at ehi; omega)
     have hd : Utf8.decode s i = ((at! s i % 16) * 4096 + (at! s (i + 1) % 64) * 64 + at! s (i + 2) % 64, 3) := by rw [hde, ← d]; simp [k1, k2]
     have ho : okAt s i = true := by rw [hok, ← o]; simp [k1, k2]
     exact glyph_good s i w (n := 3) (by rw [hd]; simp only [e0, e1, e2]; omega) (by rw [hd]) rfl ho (glyph3 s i lo hi' w hi hs hn k2 hb.1 hb.2 hlo hhi t2)
   ·obtain ⟨d, o⟩ := dec0 (at! s i) (at! s (i + 1)) (at! s (i + 2)) (at! s (i + 3)) (decide (i + 1 < s.size)) (decide (i + 2 < s.size)) (decide (i + 3 < s.size)) (by omega) l0 l1 l2 l3 (by omega) (fun _ _ h => by
     obtain ⟨_, _, a1, a2, _, _, a3, a4⟩ := h
     apply hb
     rw [← e1]
     refine ⟨?_, ?_⟩
     ·rw [elo]; split
      ·rename_i e; have := a3 e; omega
      ·omega
     ·rw [ehi]; split
      ·rename_i e; have := a4 e; omega
      ·omega) (by omega)
    rw [← hde] at d
    rw [← hok] at o
    exact glyph_bad s i w d o (glyphC s i 3 lo hi' w hi hs hn (by omega) (by omega) (by omega) (by omega))
  ·obtain ⟨d, o⟩ := dec0 (at! s i) (at! s (i + 1)) (at! s (i + 2)) (at! s (i + 3)) (decide (i + 1 < s.size)) (decide (i + 2 < s.size)) (decide (i + 3 < s.size)) (by omega) l0 l1 l2 l3 (by omega) (fun _ _ h => k2 (by simpa using h.2.1)) (by omega)
   rw [← hde] at d
   rw [← hok] at o
   exact glyph_bad s i w d o (glyphB s i 3 lo hi' w hi hs hn (by omega) (by omega) (by omega))
 ·rw [e0] at hn
  by_cases k3 : i + 3 < s.size
  ·have k1 : i + 1 < s.size := by omega
   have k2 : i + 2 < s.size := by omega
   have e1 := at!_eq s (i + 1) k1
   have e2 := at!_eq s (i + 2) k2
   have e3 := at!_eq s (i + 3) k3
   by_cases hb : lo ≤ ((s[i + 1]).toNat : Int) ∧ ((s[i + 1]).toNat : Int) ≤ hi'
   ·cases t2 : tailOf ((s[i + 2]).toNat : Int)
    ·have t2' : ¬ (128 ≤ at! s (i + 2) ∧ at! s (i + 2) ≤ 191) := by simp [tailOf] at t2; omega
     obtain ⟨d, o⟩ := dec0 (at! s i) (at! s (i + 1)) (at! s (i + 2)) (at! s (i + 3)) (decide (i + 1 < s.size)) (decide (i + 2 < s.size)) (decide (i + 3 < s.size)) (by omega) l0 l1 l2 l3 (by omega) (by omega) (fun _ _ h => t2' ⟨h.2.2.2.2.2.1, h.2.2.2.2.2.2.1⟩)
     rw [← hde] at d
     rw [← hok] at o
     exact glyph_bad s i w d o (glyph4x2 s i lo hi' w hi hs hn k3 hb.1 hb.2 hlo hhi t2)
    ·have t2' : 128 ≤ at! s (i + 2) ∧ at! s (i + 2) ≤ 191 := by simp [tailOf] at t2; omega
     cases t3 : tailOf ((s[i + 3]).toNat : Int)
     ·have t3' : ¬ (128 ≤ at! s (i + 3) ∧ at! s (i + 3) ≤ 191) := by simp [tailOf] at t3; omega
      obtain ⟨d, o⟩ := dec0 (at! s i) (at! s (i + 1)) (at! s (i + 2)) (at! s (i + 3)) (decide (i + 1 < s.size)) (decide (i + 2 < s.size)) (decide (i + 3 < s.size)) (by omega) l0 l1 l2 l3 (by omega) (by omega) (fun _ _ h => t3' ⟨h.2.2.2.2.2.2.2.1, h.2.2.2.2.2.2.2.2.1⟩)
      rw [← hde] at d
      rw [← hok] at o
      exact glyph_bad s i w d o (glyph4x3 s i lo hi' w hi hs hn k3 hb.1 hb.2 hlo hhi t2 t3)
     ·have t3' : 128 ≤ at! s (i + 3) ∧ at! s (i + 3) ≤ 191 := by simp [tailOf] at t3; omega
      obtain ⟨d, o⟩ := dec4 (at! s i) (at! s (i + 1)) (at! s (i + 2)) (at! s (i + 3)) h2 h1 (by omega) t2' t3' (fun e => by rw [e] at elo; simp at elo; omega) (fun e => by rw [e] at ehi; simp at ehi; omega)
      have hd : Utf8.decode s i = ((at! s i % 8) * 262144 + (at! s (i + 1) % 64) * 4096 + (at! s (i + 2) % 64) * 64 + at! s (i + 3) % 64, 4) := by rw [hde, ← d]; simp [k1, k2, k3]
      have ho : okAt s i = true := by rw [hok, ← o]; simp [k1, k2, k3]
      exact glyph_good s i w (n := 4) (by rw [hd]; simp only [e0, e1, e2, e3]; omega) (by rw [hd]) rfl ho (glyph4 s i lo hi' w hi hs hn k3 hb.1 hb.2 hlo hhi t2 t3)
   ·obtain ⟨d, o⟩ := dec0 (at! s i) (at! s (i + 1)) (at! s (i + 2)) (at! s (i + 3)) (decide (i + 1 < s.size)) (decide (i + 2 < s.size)) (decide (i + 3 < s.size)) (by omega) l0 l1 l2 l3 (by omega) (by omega) (fun _ _ h => by
     obtain ⟨_, _, _, a1, a2, _, _, _, _, a3, a4⟩ := h
     apply hb
     rw [← e1]
     refine ⟨?_, ?_⟩
     ·rw [elo]; split
      ·rename_i e; have := a3 e; omega
      ·omega
     ·rw [ehi]; split
      ·rename_i e; have := a4 e; omega
      ·omega)
    rw [← hde] at d
    rw [← hok] at o
    exact glyph_bad s i w d o (glyphC s i 4 lo hi' w hi hs hn (by omega) (by omega) (by omega) (by omega))
  ·obtain ⟨d, o⟩ := dec0 (at! s i) (at! s (i + 1)) (at! s (i + 2)) (at! s (i + 3)) (decide (i + 1 < s.size)) (decide (i + 2 < s.size)) (decide (i + 3 < s.size)) (by omega) l0 l1 l2 l3 (by omega) (by omega) (fun _ _ h => k3 (by simpa using h.2.2.1))
   rw [← hde] at d
   rw [← hok] at o
   exact glyph_bad s i w d o (glyphB s i 4 lo hi' w hi hs hn (by omega) (by omega) (by omega))
 ·obtain ⟨d, o⟩ := dec0 (at! s i) (at! s (i + 1)) (at! s (i + 2)) (at! s (i + 3)) (decide (i + 1 < s.size)) (decide (i + 2 < s.size)) (decide (i + 3 < s.size)) (by omega) l0 l1 l2 l3 (by omega) (by omega) (by omega)
  rw [← hde] at d
  rw [← hok] at o
  rw [e0] at hn
  exact glyph_bad s i w d o (glyphA s i w hi hs hn)
end Go.Proofs.YtfollffpibmgcaaGreatDoor
