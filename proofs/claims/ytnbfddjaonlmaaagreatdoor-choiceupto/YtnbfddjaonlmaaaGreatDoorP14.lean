/- A text's runes and boundaries: what decoding from a boundary, up to one, and of a part between two of them tells. The library's contracts that the walks of package whole take, at this program: DecodeRuneInString, DecodeLastRuneInString, sort. What a pattern's pieces match, as plain functions: of each piece two beginnings (still: no rune was taken in this turn; moved) out of what comes behind it. -/
import Derived.Test.YtnbfddjaonlmaaaGreatDoorP13
import Derived.Test.YtnbfddjaonlmaaaGreatDoorP04
import Derived.Shelf.Unicode.DecodeLast
import Derived.Shelf.LaysM
import Derived.Shelf.Strconv.Clone
import Derived.Shelf.Bits.Mul64
import Derived.Shelf.SlSorted.Search
import Derived.Test.YtnbfddjaonlmaaaGreatDoorP05
set_option linter.unusedVariables false
set_option maxRecDepth 100000
namespace Go.Proofs.YtnbfddjaonlmaaaGreatDoor
open Go.RowKit

/-! ## one rune -/
theorem decodeN_wide (n b0 b1 b2 b3 : Nat) (hn : 1 ≤ n) : 1 ≤ (Lib.decodeN n b0 b1 b2 b3).2 ∧ (Lib.decodeN n b0 b1 b2 b3).2 ≤ n ∧ (Lib.decodeN n b0 b1 b2 b3).2 ≤ 4 ∧
    (1 < (Lib.decodeN n b0 b1 b2 b3).2 → b0 / 64 ≠ 2 ∧ 128 ≤ b0 ∧ b1 / 64 = 2 ∧ (2 < (Lib.decodeN n b0 b1 b2 b3).2 → b2 / 64 = 2) ∧ (3 < (Lib.decodeN n b0 b1 b2 b3).2 → b3 / 64 = 2)) ∧
    (b0 < 128 → Lib.decodeN n b0 b1 b2 b3 = (b0, 1)) ∧ (128 ≤ b0 → (Lib.decodeN n b0 b1 b2 b3).2 = 1 → (Lib.decodeN n b0 b1 b2 b3).1 = 65533) := by
  unfold Lib.decodeN
  by_cases h0 : b0 < 128
  · rw [if_pos h0]; exact ⟨by simp, by simp; omega, by simp, fun h => by simp at h, fun _ => rfl, fun h => by omega⟩
  · rw [if_neg h0]
    repeat' split
    all_goals (refine ⟨by simp, by simp; omega, by simp, fun h => ?_, fun h => absurd h h0, fun _ h => ?_⟩ <;> first | (simp at h; done) | rfl | (simp only [] at h ⊢; omega))
/-- where the bytes behind the rune are not there it is the same -/
theorem decodeN_cut (n m b0 b1 b2 b3 c1 c2 c3 : Nat) (hm : 1 ≤ m) (hmn : m ≤ n) (h1 : 1 < m → c1 = b1) (h2 : 2 < m → c2 = b2) (h3 : 3 < m → c3 = b3) (hw : (Lib.decodeN n b0 b1 b2 b3).2 ≤ m) : Lib.decodeN m b0 c1 c2 c3 = Lib.decodeN n b0 b1 b2 b3 := by
  unfold Lib.decodeN at *
  by_cases h0 : b0 < 128
  · rw [if_pos h0, if_pos h0]
  · rw [if_neg h0] at hw ⊢
    rw [if_neg h0]
    by_cases k1 : 1 < m
    · have e1 := h1 k1
      subst e1
      by_cases k2 : 2 < m
      · have e2 := h2 k2
        subst e2
        by_cases k3 : 3 < m
        · have e3 := h3 k3
          subst e3
          have a1 : 1 < n := by omega
          have a2 : 2 < n := by omega
          have a3 : 3 < n := by omega
          simp only [k1, k2, k3, a1, a2, a3, true_and]
        · have a1 : 1 < n := by omega
          have a2 : 2 < n := by omega
          simp only [k1, k2, k3, a1, a2, true_and, false_and, and_false, if_false] at hw ⊢
          repeat' split
          all_goals first | rfl | (exfalso; simp_all; done) | (exfalso; simp_all; omega)
      · have a1 : 1 < n := by omega
        simp only [k1, k2, a1, show ¬ 3 < m by omega, true_and, false_and, and_false, if_false] at hw ⊢
        repeat' split
        all_goals first | rfl | (exfalso; simp_all; done) | (exfalso; simp_all; omega)
    · simp only [k1, show ¬ 2 < m by omega, show ¬ 3 < m by omega, false_and, and_false, if_false] at hw ⊢
      repeat' split
      all_goals first | rfl | (exfalso; simp_all; done) | (exfalso; simp_all; omega)

theorem decode_wide (s : ByteArray) (p : Nat) (h : p < s.size) : 1 ≤ (Utf8.decode s p).2 ∧ p + (Utf8.decode s p).2 ≤ s.size ∧ (Utf8.decode s p).2 ≤ 4 ∧
    (1 < (Utf8.decode s p).2 → (s.get! p).toNat / 64 ≠ 2 ∧ 128 ≤ (s.get! p).toNat ∧ ∀ k, 1 ≤ k → k < (Utf8.decode s p).2 → (s.get! (p + k)).toNat / 64 = 2) ∧
    ((s.get! p).toNat < 128 → Utf8.decode s p = ((s.get! p).toNat, 1)) ∧ (128 ≤ (s.get! p).toNat → (Utf8.decode s p).2 = 1 → (Utf8.decode s p).1 = 65533) := by
  rw [Lib.decode_at]
  obtain ⟨a1, a2, a3, a4, a5, a6⟩ := decodeN_wide (s.size - p) (s.get! p).toNat (s.get! (p + 1)).toNat (s.get! (p + 2)).toNat (s.get! (p + 3)).toNat (by omega)
  refine ⟨a1, by omega, a3, fun h1 => ?_, a5, a6⟩
  obtain ⟨b1, b2, b3, b4, b5⟩ := a4 h1
  refine ⟨b1, b2, fun k k1 k2 => ?_⟩
  have : k = 1 ∨ k = 2 ∨ k = 3 := by omega
  rcases this with rfl | rfl | rfl
  · exact b3
  · exact b4 k2
  · exact b5 k2
theorem extract_get (s : ByteArray) (a b k : Nat) (hb : b ≤ s.size) (hk : a + k < b) : (s.extract a b).get! k = s.get! (a + k) := by
  rw [← Lib.getD_get!, ← Lib.getD_get!, Lib.extract_data]
  simp only [List.getD_eq_getElem?_getD]
  congr 1
  rw [List.getElem?_take_of_lt (by omega), List.getElem?_drop]
theorem extract_size (s : ByteArray) (a b : Nat) (hb : b ≤ s.size) : (s.extract a b).size = b - a := by
  rw [Lib.size_eq, Lib.extract_data, List.length_take, List.length_drop, ← Lib.size_eq]
  omega
/-- a part of a text, where the rune ends within it -/
theorem decode_cut (s : ByteArray) (a b p : Nat) (hb : b ≤ s.size) (hp : a + p < b) (hw : a + p + (Utf8.decode s (a + p)).2 ≤ b) : Utf8.decode (s.extract a b) p = Utf8.decode s (a + p) := by
  rw [Lib.decode_at] at hw ⊢
  rw [Lib.decode_at, extract_size s a b hb, extract_get s a b p hb hp]
  refine decodeN_cut _ _ _ _ _ _ _ _ _ (by omega) (by omega) (fun h => ?_) (fun h => ?_) (fun h => ?_) (by omega)
  · rw [extract_get s a b (p + 1) hb (by omega)]; rfl
  · rw [extract_get s a b (p + 2) hb (by omega)]; rfl
  · rw [extract_get s a b (p + 3) hb (by omega)]; rfl
theorem decodeGo_at (s : ByteArray) (p : Nat) (h : p < s.size) : Lib.decodeGo (s.extract p s.size) = Utf8.decode s p := by
  have hs := extract_size s p s.size (Nat.le_refl _)
  have hw := decode_wide s p h
  unfold Lib.decodeGo
  rw [if_neg (by omega), decode_cut s p s.size 0 (Nat.le_refl _) (by omega) (by rw [Nat.add_zero]; omega), Nat.add_zero]

/-! ## the boundaries -/
/-- the runes of a text and their places, chained -/
structure Chain (s : ByteArray) (a : Nat) (l : List (Nat × Int)) : Prop where
  first : ∀ h : 0 < l.length, l[0].1 = a
  none : l.length = 0 → a = s.size
  lt : ∀ i, (h : i < l.length) → l[i].1 < s.size
  rune : ∀ i, (h : i < l.length) → l[i].2 = ((Utf8.decode s l[i].1).1 : Int)
  next : ∀ i, (h : i + 1 < l.length) → l[i + 1].1 = l[i].1 + (Utf8.decode s l[i].1).2
  last : ∀ i, (h : i + 1 = l.length) → s.size = l[i].1 + (Utf8.decode s l[i].1).2
theorem scan_chain (s : ByteArray) : ∀ (m pos : Nat), s.size - pos ≤ m → pos ≤ s.size → Chain s pos (scanFrom s m pos)
  | 0, pos, h, hp => ⟨fun h => by simp [scanFrom] at h, fun _ => by omega, fun i h => by simp [scanFrom] at h, fun i h => by simp [scanFrom] at h, fun i h => by simp [scanFrom] at h, fun i h => by simp [scanFrom] at h⟩
  | m + 1, pos, h, hp => by
    unfold scanFrom
    by_cases hlt : pos < s.size
    · rw [if_pos hlt]
      have hw := decode_wide s pos hlt
      have ih := scan_chain s m (pos + (Utf8.decode s pos).2) (by omega) (by omega)
      refine ⟨fun _ => rfl, fun h => by simp at h, fun i hi => ?_, fun i hi => ?_, fun i hi => ?_, fun i hi => ?_⟩
      · cases i with
        | zero => exact hlt
        | succ i => exact ih.lt i (by simpa using hi)
      · cases i with
        | zero => rfl
        | succ i => exact ih.rune i (by simpa using hi)
      · cases i with
        | zero => exact ih.first (by simpa using hi)
        | succ i => exact ih.next i (by simpa using hi)
      · cases i with
        | zero => exact (ih.none (by simpa using hi.symm)).symm
        | succ i => exact ih.last i (by simpa using hi)
    · rw [if_neg hlt]
      exact ⟨fun h => by simp at h, fun _ => by omega, fun i h => by simp at h, fun i h => by simp at h, fun i h => by simp at h, fun i h => by simp at h⟩

def runesOf (s : ByteArray) : List (Nat × Int) := scanFrom s s.size 0
def txOf (s : ByteArray) : TX := ⟨runesOf s, s.size⟩
/-- the i-th boundary -/
def bd (s : ByteArray) (i : Nat) : Nat := ((runesOf s)[i]?.map (·.1)).getD s.size
theorem runes_chain (s : ByteArray) : Chain s 0 (runesOf s) := scan_chain s s.size 0 (by omega) (Nat.zero_le _)
theorem bd_lt {s : ByteArray} {i : Nat} (h : i < (runesOf s).length) : bd s i = (runesOf s)[i].1 := by unfold bd; rw [List.getElem?_eq_getElem h]; rfl
theorem bd_end {s : ByteArray} {i : Nat} (h : (runesOf s).length ≤ i) : bd s i = s.size := by unfold bd; rw [List.getElem?_eq_none h]; rfl
theorem bd_zero (s : ByteArray) : bd s 0 = 0 := by
  by_cases h : 0 < (runesOf s).length
  · rw [bd_lt h]; exact (runes_chain s).first h
  · rw [bd_end (by omega)]; exact ((runes_chain s).none (by omega)).symm
theorem bd_size {s : ByteArray} {i : Nat} (h : i < (runesOf s).length) : bd s i < s.size := by rw [bd_lt h]; exact (runes_chain s).lt i h
theorem bd_le (s : ByteArray) (i : Nat) : bd s i ≤ s.size := by
  by_cases h : i < (runesOf s).length
  · exact Nat.le_of_lt (bd_size h)
  · rw [bd_end (by omega)]; exact Nat.le_refl _
theorem bd_next {s : ByteArray} {i : Nat} (h : i < (runesOf s).length) : bd s (i + 1) = bd s i + (Utf8.decode s (bd s i)).2 := by
  rw [bd_lt h]
  by_cases h2 : i + 1 < (runesOf s).length
  · rw [bd_lt h2]; exact (runes_chain s).next i h2
  · rw [bd_end (by omega)]; exact (runes_chain s).last i (by omega)
theorem bd_step {s : ByteArray} {i : Nat} (h : i < (runesOf s).length) : bd s i < bd s (i + 1) ∧ bd s (i + 1) ≤ bd s i + 4 := by
  have := decode_wide s _ (bd_size h); rw [bd_next h]; omega
theorem bd_mono (s : ByteArray) {i j : Nat} (h : i ≤ j) : bd s i ≤ bd s j := by
  induction j with
  | zero => have : i = 0 := by omega
            subst this; exact Nat.le_refl _
  | succ j ih =>
    by_cases e : i = j + 1
    · subst e; exact Nat.le_refl _
    · have h1 := ih (by omega)
      by_cases hj : j < (runesOf s).length
      · have := bd_step hj; omega
      · rw [bd_end (i := j + 1) (by omega)]; exact bd_le s i
theorem bd_strict {s : ByteArray} {i j : Nat} (h : i < j) (hj : i < (runesOf s).length) : bd s i < bd s j := by
  have h1 := bd_step hj
  have h2 := bd_mono s (show i + 1 ≤ j by omega)
  omega
theorem bd_inj {s : ByteArray} {i j : Nat} (hi : i ≤ (runesOf s).length) (hj : j ≤ (runesOf s).length) (h : bd s i = bd s j) : i = j := by
  by_cases h1 : i < j
  · have := bd_strict (s := s) h1 (by omega); omega
  · by_cases h2 : j < i
    · have := bd_strict (s := s) h2 (by omega); omega
    · omega
theorem bound_bd (s : ByteArray) (i : Nat) : (txOf s).bound i = (bd s i : Int) := by
  unfold TX.bound bd txOf
  simp only [List.getElem?_map]
  cases (runesOf s)[i]? <;> rfl
theorem rune_bd {s : ByteArray} {i : Nat} (h : i < (runesOf s).length) : (txOf s).rune i = ((Utf8.decode s (bd s i)).1 : Int) := by
  unfold TX.rune txOf
  simp only [List.getElem?_map, List.getElem?_eq_getElem h, Option.map_some, Option.getD_some]
  rw [bd_lt h]
  exact (runes_chain s).rune i h
/-- the runes are no more than the bytes -/
theorem runes_le (s : ByteArray) : (runesOf s).length ≤ s.size := by
  have : ∀ i, i ≤ (runesOf s).length → i ≤ bd s i := by
    intro i
    induction i with
    | zero => intro _; exact Nat.zero_le _
    | succ i ih =>
      intro h
      have := bd_step (s := s) (i := i) (by omega)
      have := ih (by omega)
      omega
  have h := this _ (Nat.le_refl _)
  rw [bd_end (Nat.le_refl _)] at h
  exact h
/-- between which boundaries a place lies -/
theorem bd_find (s : ByteArray) (k : Nat) (hk : k < s.size) : ∃ i, i < (runesOf s).length ∧ bd s i ≤ k ∧ k < bd s (i + 1) := by
  have : ∀ d i, (runesOf s).length - i ≤ d → i ≤ (runesOf s).length → bd s i ≤ k → ∃ i, i < (runesOf s).length ∧ bd s i ≤ k ∧ k < bd s (i + 1) := by
    intro d
    induction d with
    | zero => intro i h1 h2 h3; rw [bd_end (by omega)] at h3; omega
    | succ d ih =>
      intro i h1 h2 h3
      by_cases hi : i < (runesOf s).length
      · by_cases hk2 : k < bd s (i + 1)
        · exact ⟨i, hi, h3, hk2⟩
        · exact ih (i + 1) (by omega) (by omega) (by omega)
      · rw [bd_end (by omega)] at h3; omega
  exact this _ 0 (Nat.le_refl _) (Nat.zero_le _) (by rw [bd_zero]; omega)
/-- where a rune may begin there is a boundary -/
theorem bd_start (s : ByteArray) (k : Nat) (hk : k < s.size) (h : (s.get! k).toNat / 64 ≠ 2) : ∃ i, i < (runesOf s).length ∧ bd s i = k := by
  obtain ⟨i, h1, h2, h3⟩ := bd_find s k hk
  refine ⟨i, h1, ?_⟩
  apply Classical.byContradiction
  intro hne
  have hw := decode_wide s _ (bd_size h1)
  rw [bd_next h1] at h3
  have := (hw.2.2.2.1 (by omega)).2.2 (k - bd s i) (by omega) (by omega)
  rw [show bd s i + (k - bd s i) = k by omega] at this
  exact h this
set_option maxHeartbeats 2000000 in
/-- the last rune ahead of a boundary -/
theorem last_bd {s : ByteArray} {i : Nat} (h : i < (runesOf s).length) : ((Lib.decodeLastL (s.extract 0 (bd s (i + 1))).data.toList).1 : Int) = (txOf s).rune i := by
  have hq := bd_size h
  have hst := bd_step h
  have hp := bd_le s (i + 1)
  have hw := decode_wide s _ hq
  have hnx := bd_next h
  have hsz : (s.extract 0 (bd s (i + 1))).size = bd s (i + 1) := by rw [extract_size s 0 _ hp]; rfl
  have hg : ∀ k, k < bd s (i + 1) → (s.extract 0 (bd s (i + 1))).get! k = s.get! k := fun k hk => by rw [extract_get s 0 _ k hp (by omega), Nat.zero_add]
  rw [rune_bd h]
  by_cases ha : (s.get! (bd s (i + 1) - 1)).toNat < 128
  · -- an ASCII byte: the rune is it
    have hw1 : (Utf8.decode s (bd s i)).2 = 1 := by
      apply Classical.byContradiction
      intro hne
      have h1 := (hw.2.2.2.1 (by omega)).2.2 ((Utf8.decode s (bd s i)).2 - 1) (by omega) (by omega)
      rw [show bd s i + ((Utf8.decode s (bd s i)).2 - 1) = bd s (i + 1) - 1 by omega] at h1
      omega
    have e : bd s (i + 1) - 1 = bd s i := by omega
    rw [e] at ha
    rw [hw.2.2.2.2.1 ha]
    unfold Lib.decodeLastL
    have hne : (s.extract 0 (bd s (i + 1))).data.toList ≠ [] := fun h0 => by
      have := Lib.size_eq (s.extract 0 (bd s (i + 1))); rw [hsz, h0, List.length_nil] at this; omega
    rw [if_neg hne, ← Lib.size_eq, hsz, Lib.getD_get!, hg (bd s (i + 1) - 1) (by omega), e, if_pos ha]
  · rw [Lib.decodeLastL_eq _ (by omega) (by rw [hsz, hg _ (by omega)]; omega)]
    generalize hst' : Lib.lastStart (s.extract 0 (bd s (i + 1))).data.toList = st
    unfold Lib.lastOf
    rw [hsz]
    have hl : (s.extract 0 (bd s (i + 1))).data.toList.length = bd s (i + 1) := by rw [← Lib.size_eq, hsz]
    have hne : (s.extract 0 (bd s (i + 1))).data.toList ≠ [] := fun h0 => by rw [h0] at hl; simp at hl; omega
    have hlt := Lib.lastStart_lt _ hne
    rw [hst', hl] at hlt
    have hat : ∀ k, 1 ≤ k → k ≤ bd s (i + 1) → Lib.runeStartB ((s.extract 0 (bd s (i + 1))).data.toList.getD (bd s (i + 1) - k) 0) = decide ((s.get! (bd s (i + 1) - k)).toNat / 64 ≠ 2) := fun k k1 k2 => by
      rw [Lib.getD_get!, hg _ (by omega)]
      unfold Lib.runeStartB
      rw [Bool.eq_iff_iff]
      simp
    have hD : Lib.decodeGo ((s.extract 0 (bd s (i + 1))).extract st (bd s (i + 1))) = Utf8.decode (s.extract 0 (bd s (i + 1))) st := by
      have := decodeGo_at (s.extract 0 (bd s (i + 1))) st (by omega)
      rw [hsz] at this
      exact this
    rw [hD]
    by_cases hone : (Utf8.decode s (bd s i)).2 = 1
    · -- a byte that is no part of a rune
      have e : bd s (i + 1) - 1 = bd s i := by omega
      have hbad : (Utf8.decode s (bd s i)).1 = 65533 := hw.2.2.2.2.2 (by rw [← e]; omega) hone
      rw [hbad]
      split
      · rename_i hend
        -- it ends here: then it begins here
        have hwT := decode_wide (s.extract 0 (bd s (i + 1))) st (by omega)
        by_cases hb : (Utf8.decode (s.extract 0 (bd s (i + 1))) st).2 = 1
        · have est : st = bd s i := by omega
          have := hwT.2.2.2.2.2 (by rw [est, hg _ (by omega), ← e]; omega) hb
          rw [this]
        · exfalso
          have hst2 := (hwT.2.2.2.1 (by omega)).1
          rw [hg _ (by omega)] at hst2
          obtain ⟨j, j1, j2⟩ := bd_start s st (by omega) hst2
          have hdc : Utf8.decode (s.extract 0 (bd s (i + 1))) st = Utf8.decode s st := by
            have wj := decode_wide s _ (bd_size j1)
            have hle : bd s (j + 1) ≤ bd s (i + 1) := by
              have : j < i + 1 := by
                apply Classical.byContradiction
                intro hx
                have := bd_mono s (show i + 1 ≤ j by omega)
                omega
              exact bd_mono s (by omega)
            rw [bd_next j1, j2] at hle
            have := decode_cut s 0 (bd s (i + 1)) st hp (by omega) (by rw [Nat.zero_add]; omega)
            rw [Nat.zero_add] at this
            exact this
          rw [hdc] at hend hb
          have e2 : bd s (j + 1) = bd s (i + 1) := by rw [bd_next j1, j2]; exact hend
          have := bd_inj (by omega) (by omega) e2
          have : j = i := by omega
          subst this
          omega
      · rfl
    · -- a rune of several bytes: its first is the nearest that may begin one
      have hcont := hw.2.2.2.1 (by omega)
      have hst0 : st = bd s i := by
        have hk : (Utf8.decode s (bd s i)).2 = 2 ∨ (Utf8.decode s (bd s i)).2 = 3 ∨ (Utf8.decode s (bd s i)).2 = 4 := by omega
        rw [← hst']
        have hst3 : ∀ k, bd s i + k < bd s (i + 1) → Lib.runeStartB ((s.extract 0 (bd s (i + 1))).data.toList.getD (bd s i + k) 0) = decide ((s.get! (bd s i + k)).toNat / 64 ≠ 2) := fun k hk => by
          have := hat (bd s (i + 1) - (bd s i + k)) (by omega) (by omega)
          rw [show bd s (i + 1) - (bd s (i + 1) - (bd s i + k)) = bd s i + k by omega] at this
          exact this
        have s0 : Lib.runeStartB ((s.extract 0 (bd s (i + 1))).data.toList.getD (bd s i) 0) = true := by
          have := hst3 0 (by omega)
          simp only [Nat.add_zero] at this
          rw [this]; exact decide_eq_true hcont.1
        have sk : ∀ k, 1 ≤ k → k < (Utf8.decode s (bd s i)).2 → Lib.runeStartB ((s.extract 0 (bd s (i + 1))).data.toList.getD (bd s i + k) 0) = false := fun k k1 k2 => by
          rw [hst3 k (by omega)]; exact decide_eq_false fun hx => hx (hcont.2.2 k k1 k2)
        rcases hk with hk | hk | hk
        · exact Lib.lastStart_at2 _ _ (by omega) s0
        · exact Lib.lastStart_at3 _ _ (by omega) (sk 1 (by omega) (by omega)) s0
        · exact Lib.lastStart_at4 _ _ (by omega) (sk 2 (by omega) (by omega)) (sk 1 (by omega) (by omega)) s0
      have hdc : Utf8.decode (s.extract 0 (bd s (i + 1))) st = Utf8.decode s (bd s i) := by
        have := decode_cut s 0 (bd s (i + 1)) (bd s i) hp (by omega) (by rw [Nat.zero_add]; omega)
        rw [Nat.zero_add] at this
        rw [hst0]; exact this
      rw [hdc, if_pos (by omega)]

end Go.Proofs.YtnbfddjaonlmaaaGreatDoor
namespace Go.Proofs.YtnbfddjaonlmaaaGreatDoor
open Go.Shelf Go.RowKit Go.Lib Go.Sort
def Tryz.laysM316_ren : Go.Shelf.Ren := ⟨fun | 316 => 78 | n => n, fun | 9 => 9 | 3 => 3 | 4 => 4 | 37 => 35 | 0 => 0 | 127 => 163 | 5 => 5 | n => n, fun | n => n⟩
theorem Tryz.laysM316 : Go.Proofs.LaysM.n316 Tryz.prog Tryz.laysM316_ren := {
  mixed := by kernel_rfl
  f316 := Tryz.func78.trans (congrArg some (by kernel_rfl))
  t0 := Tryz.underlying0
  a0 := Tryz.isAgg0
  z0 := Tryz.sizeOf0
  v0 := Tryz.zeroValue0
  t3 := Tryz.underlying3
  a3 := Tryz.isAgg3
  z3 := Tryz.sizeOf3
  v3 := Tryz.zeroValue3
  t4 := Tryz.underlying4
  a4 := Tryz.isAgg4
  z4 := Tryz.sizeOf4
  v4 := Tryz.zeroValue4
  t9 := Tryz.underlying9
  a9 := Tryz.isAgg9
  z9 := Tryz.sizeOf9
  v9 := Tryz.zeroValue9
  t37 := Tryz.underlying35
  a37 := Tryz.isAgg35
  z37 := Tryz.sizeOf35
  v37 := Tryz.zeroValue35
  t127 := Tryz.underlying163
  a127 := Tryz.isAgg163
  z127 := Tryz.sizeOf163
  v127 := Tryz.zeroValue163
  t5 := Tryz.underlying5
  a5 := Tryz.isAgg5
  z5 := Tryz.sizeOf5
  v5 := Tryz.zeroValue5
  i0 := by kernel_rfl
  i3 := by kernel_rfl
  i4 := by kernel_rfl
  i5 := by kernel_rfl
  i9 := by kernel_rfl
  i37 := by kernel_rfl
  i127 := by kernel_rfl }
def Tryz.lays212_ren : Go.Shelf.Ren := ⟨fun | 212 => 77 | 263 => 95 | 264 => 96 | n => n, fun | 46 => 140 | 51 => 158 | 146 => 159 | 53 => 132 | 148 => 161 | n => n, fun | n => n⟩
theorem Tryz.lays212 : Go.Proofs.Lays.n212 Tryz.prog Tryz.lays212_ren := {
  mixed := by kernel_rfl
  f212 := Tryz.func77.trans (congrArg some (by kernel_rfl))
  f263 := Tryz.func95.trans (congrArg some (by kernel_rfl))
  f264 := Tryz.func96.trans (congrArg some (by kernel_rfl))
  t46 := Tryz.underlying140
  a46 := Tryz.isAgg140
  z46 := Tryz.sizeOf140
  v46 := Tryz.zeroValue140
  t51 := Tryz.underlying158
  a51 := Tryz.isAgg158
  z51 := Tryz.sizeOf158
  v51 := Tryz.zeroValue158
  t53 := Tryz.underlying132
  a53 := Tryz.isAgg132
  z53 := Tryz.sizeOf132
  v53 := Tryz.zeroValue132
  t146 := Tryz.underlying159
  a146 := Tryz.isAgg159
  z146 := Tryz.sizeOf159
  v146 := Tryz.zeroValue159
  t148 := Tryz.underlying161
  a148 := Tryz.isAgg161
  z148 := Tryz.sizeOf161
  v148 := Tryz.zeroValue161 }
def Tryz.lays271_ren : Go.Shelf.Ren := ⟨fun | 271 => 90 | 120 => 109 | 197 => 61 | 260 => 76 | n => n, fun | 9 => 9 | 21 => 21 | 3 => 3 | 4 => 4 | 5 => 5 | 105 => 124 | 119 => 154 | 0 => 0 | 46 => 140 | 139 => 157 | 138 => 156 | n => n, fun | 3 => 0 | 4 => 1 | n => n⟩
theorem Tryz.lays271 : Go.Proofs.Lays.n271 Tryz.prog Tryz.lays271_ren := {
  mixed := by kernel_rfl
  f120 := Tryz.func109.trans (congrArg some (by kernel_rfl))
  f197 := Tryz.func61.trans (congrArg some (by kernel_rfl))
  f260 := Tryz.func76.trans (congrArg some (by kernel_rfl))
  f271 := Tryz.func90.trans (congrArg some (by kernel_rfl))
  t0 := Tryz.underlying0
  a0 := Tryz.isAgg0
  z0 := Tryz.sizeOf0
  v0 := Tryz.zeroValue0
  t3 := Tryz.underlying3
  a3 := Tryz.isAgg3
  z3 := Tryz.sizeOf3
  v3 := Tryz.zeroValue3
  t4 := Tryz.underlying4
  a4 := Tryz.isAgg4
  z4 := Tryz.sizeOf4
  v4 := Tryz.zeroValue4
  t5 := Tryz.underlying5
  a5 := Tryz.isAgg5
  z5 := Tryz.sizeOf5
  v5 := Tryz.zeroValue5
  t9 := Tryz.underlying9
  a9 := Tryz.isAgg9
  z9 := Tryz.sizeOf9
  v9 := Tryz.zeroValue9
  t21 := Tryz.underlying21
  a21 := Tryz.isAgg21
  z21 := Tryz.sizeOf21
  v21 := Tryz.zeroValue21
  t46 := Tryz.underlying140
  a46 := Tryz.isAgg140
  z46 := Tryz.sizeOf140
  v46 := Tryz.zeroValue140
  t105 := Tryz.underlying124
  a105 := Tryz.isAgg124
  z105 := Tryz.sizeOf124
  v105 := Tryz.zeroValue124
  t119 := Tryz.underlying154
  a119 := Tryz.isAgg154
  z119 := Tryz.sizeOf154
  t138 := Tryz.underlying156
  a138 := Tryz.isAgg156
  z138 := Tryz.sizeOf156
  v138 := Tryz.zeroValue156
  t139 := Tryz.underlying157
  a139 := Tryz.isAgg157
  z139 := Tryz.sizeOf157
  v139 := Tryz.zeroValue157
  g3 := by kernel_rfl
  g4 := by kernel_rfl }
def Tryz.search_ren : Go.Shelf.Ren := ⟨fun | 16 => 91 | n => n, fun | 3 => 3 | 35 => 123 | 4 => 4 | 38 => 140 | n => n, fun | n => n⟩
theorem Tryz.search : Go.Proofs.SlLaysO.n16 Tryz.prog Tryz.search_ren := {
  mixed := by kernel_rfl
  f16 := Tryz.func91.trans (congrArg some (by kernel_rfl))
  t3 := Tryz.underlying3
  a3 := Tryz.isAgg3
  z3 := Tryz.sizeOf3
  v3 := Tryz.zeroValue3
  t4 := Tryz.underlying4
  a4 := Tryz.isAgg4
  z4 := Tryz.sizeOf4
  v4 := Tryz.zeroValue4
  t35 := Tryz.underlying123
  a35 := Tryz.isAgg123
  z35 := Tryz.sizeOf123
  v35 := Tryz.zeroValue123
  t38 := Tryz.underlying140
  a38 := Tryz.isAgg140
  z38 := Tryz.sizeOf140
  v38 := Tryz.zeroValue140 }

theorem keptB {w w' : World} (h : Go.RowKit.Below w.heap.size w w') : Kept Nil w w' := ⟨h.os, h.tape, h.output, h.size, fun k hk _ => h.block k hk⟩
/-- the two tables of package utf8 lie where the program's text lays them -/
def Tabs (w : World) : Prop := Lib.Utf8Tabs 0 1 w
theorem decode_any (s : ByteArray) (w : World) (hT : Tabs w) : Calls Tryz.prog 61 #[.string s] w fun e w' => e = .returned (.tuple #[.int .i32 (Lib.decodeGo s).1, .int .i64 (Lib.decodeGo s).2]) ∧ Kept Nil w w' := by
  refine (Any.utf8_DecodeRuneInString { Tryz.lays271 with } s w hT).mono ?_
  rintro e w' ⟨h1, h2⟩
  exact ⟨h1, keptB h2⟩
theorem decodeLast_any (s : ByteArray) (w : World) (hs : s.size ≤ 9223372036854775807) (hT : Tabs w) : Calls Tryz.prog 90 #[.string s] w fun e w' => e = .returned (.tuple #[.int .i32 (Lib.decodeLastL s.data.toList).1, .int .i64 (Lib.decodeLastL s.data.toList).2]) ∧ Kept Nil w w' := by
  refine (Any.utf8_DecodeLastRuneInString Tryz.lays271 s w hs hT).mono ?_
  rintro e w' ⟨h1, h2⟩
  exact ⟨h1, keptB h2⟩
theorem clone_any (s : ByteArray) (w : World) (hs : s.size ≤ 281474976710656) : Calls Tryz.prog 78 #[.string s] w fun e w' => e = .returned (.string s) ∧ Kept Nil w w' := by
  refine (Any.stringslite_Clone Tryz.laysM316 s w hs).mono ?_
  rintro e w' ⟨h1, h2⟩
  exact ⟨h1, keptB h2⟩
theorem mul_any (x y : Nat) (hx : x < 18446744073709551616) (hy : y < 18446744073709551616) (w : World) :
    Calls Tryz.prog 77 #[.int .u64 x, .int .u64 y] w fun e w' => e = .returned (.tuple #[.int .u64 ((x * y / 18446744073709551616 : Nat) : Int), .int .u64 ((x * y % 18446744073709551616 : Nat) : Int)]) ∧ w' = w := Any.bits_Mul Tryz.lays212 x y hx hy w
theorem Tabs.kept {w w' : World} {S : Nat → Prop} (h : Tabs w) (k : Kept S w w') (h3 : ¬ S 0) (h4 : ¬ S 1) : Tabs w' := by
  have key : ∀ {a : Addr} {v : Value}, ¬ S a.block → w.cell? a = some v → w'.cell? a = some v := fun {a v} ha hc => (k.cell (World.block_lt_of_cell? _ _ hc) ha).trans hc
  exact ⟨fun c hc => key h3 (h.1 c hc), fun i hi => ⟨key h4 (h.2 i hi).1, key h4 (h.2 i hi).2⟩⟩
theorem Tabs.keptN {w w' : World} (h : Tabs w) (k : Kept Nil w w') : Tabs w' := h.kept k (fun h => h) (fun h => h)
end Go.Proofs.YtnbfddjaonlmaaaGreatDoor
namespace Go.Proofs.YtnbfddjaonlmaaaGreatDoor

/-- what comes: from the i-th place, with these groups: where it ends, and the groups then -/
abbrev Cont := Nat → List Int → Option (Nat × List Int)
def nowhere : Cont := fun _ _ => none
def forkC (a b : Cont) : Cont := fun i gs => match a i gs with
  | some v => some v
  | none => b i gs
def forkP (a b : Cont × Cont) : Cont × Cont := (forkC a.1 b.1, forkC a.2 b.2)
def eitherP (lz : Bool) (part rest : Cont × Cont) : Cont × Cont := if lz then forkP rest part else forkP part rest
def takesC (sp : Spans) (fo nt : Bool) (c : Int) : Bool := (inSpans sp c || (fo && letterOf c && inSpans sp (otherOf c))) != nt
def edgeIs (x : TX) (ed : Int) (i : Nat) : Bool :=
  if ed = 0 then i == 0 else if ed = 1 then i == x.l.length else if ed = 2 then x.word ((i : Int) - 1) != x.word i else !(x.word ((i : Int) - 1) != x.word i)
def takeC (x : TX) (sp : Spans) (fo nt : Bool) (k : Cont) : Cont := fun i gs => if decide (i < x.l.length) && takesC sp fo nt (x.rune i) then k (i + 1) gs else none
def standC (x : TX) (ed : Int) (k : Cont) : Cont := fun i gs => if edgeIs x ed i then k i gs else none
def markC (x : TX) (slot : Nat) (k : Cont) : Cont := fun i gs => k i (gs.set slot (x.bound i))
def standP (x : TX) (ed : Int) (p : Cont × Cont) : Cont × Cont := (standC x ed p.1, standC x ed p.2)
def markP (x : TX) (slot : Nat) (p : Cont × Cont) : Cont × Cont := (markC x slot p.1, markC x slot p.2)
def iterP (f : Cont × Cont → Cont × Cont) : Nat → Cont × Cont → Cont × Cont
  | 0, p => p
  | n + 1, p => f (iterP f n p)
/-- one more turn, or the rest: as often as the fuel lasts -/
def againC (part : Cont × Cont → Cont × Cont) (lz : Bool) (rest : Cont) : Nat → Cont
  | 0 => nowhere
  | n + 1 => if lz then forkC rest (part (nowhere, againC part lz rest n)).1 else forkC (part (nowhere, againC part lz rest n)).1 rest
def loopP (x : TX) (part : Cont × Cont → Cont × Cont) (lz : Bool) (nx : Cont × Cont) : Cont × Cont :=
  eitherP lz ((part (nowhere, againC part lz nx.2 (x.l.length + 1))).1, (part (nowhere, againC part lz nx.2 (x.l.length + 1))).1) nx
def optP (part : Cont × Cont → Cont × Cont) (lz : Bool) (nx : Cont × Cont) : Cont × Cont → Cont × Cont := fun all => eitherP lz (part all) nx
def timesP (x : TX) (part : Cont × Cont → Cont × Cont) (lo hi : Int) (lz : Bool) (nx : Cont × Cont) : Cont × Cont :=
  iterP part lo.toNat (if hi = -1 then loopP x part lz nx else iterP (optP part lz nx) (hi - lo).toNat nx)

mutual
def semC (x : TX) : CT → Cont × Cont → Cont × Cont
  | .node k sp fo nt ed gr lo hi lz kids => fun nx =>
    if k = 0 then (takeC x sp fo nt nx.2, takeC x sp fo nt nx.2)
    else if k = 1 then standP x ed nx
    else if k = 2 then (if gr = 0 then semOne x kids nx else markP x (2 * (gr.toNat - 1)) (semOne x kids (markP x (2 * (gr.toNat - 1) + 1) nx)))
    else if k = 3 then semSeq x kids nx
    else if k = 4 then semAlt x kids nx
    else timesP x (semOne x kids) lo hi lz nx
def semOne (x : TX) : List CT → Cont × Cont → Cont × Cont
  | [] => fun nx => nx
  | c :: _ => semC x c
def semSeq (x : TX) : List CT → Cont × Cont → Cont × Cont
  | [] => fun nx => nx
  | c :: cs => fun nx => semC x c (semSeq x cs nx)
def semAlt (x : TX) : List CT → Cont × Cont → Cont × Cont
  | [] => fun _ => (nowhere, nowhere)
  | [c] => semC x c
  | c :: d :: cs => fun nx => forkP (semC x c nx) (semAlt x (d :: cs) nx)
end

/-! ## what hangs on what -/
/-- two continuations are the same from the i-th place on, up to the text's end -/
def SameFrom (n i : Nat) (a b : Cont) : Prop := ∀ j, i ≤ j → j ≤ n → ∀ gs, a j gs = b j gs
theorem SameFrom.later {n i k : Nat} {a b : Cont} (h : SameFrom n i a b) (hk : i ≤ k) : SameFrom n k a b := fun j h1 h2 gs => h j (by omega) h2 gs
/-- f's still beginning at i hangs on the still end at i, and on the moved end behind i; its moved beginning on the moved end from i on -/
def Local (n : Nat) (f : Cont × Cont → Cont × Cont) : Prop := ∀ (i : Nat) (p q : Cont × Cont), i ≤ n →
  ((∀ gs, p.1 i gs = q.1 i gs) → SameFrom n (i + 1) p.2 q.2 → ∀ gs, (f p).1 i gs = (f q).1 i gs) ∧ (SameFrom n i p.2 q.2 → ∀ gs, (f p).2 i gs = (f q).2 i gs)
variable {n : Nat}
theorem Local.moved {f : Cont × Cont → Cont × Cont} (h : Local n f) {i : Nat} {p q : Cont × Cont} (e : SameFrom n i p.2 q.2) : SameFrom n i (f p).2 (f q).2 :=
  fun j hj hn gs => (h j p q hn).2 (e.later hj) gs
theorem Local.comp {f g : Cont × Cont → Cont × Cont} (hf : Local n f) (hg : Local n g) : Local n (fun p => f (g p)) := fun i p q hi =>
  ⟨fun h1 h2 gs => (hf i (g p) (g q) hi).1 (fun gs' => (hg i p q hi).1 h1 h2 gs') (hg.moved h2) gs, fun h gs => (hf i (g p) (g q) hi).2 (hg.moved h) gs⟩
theorem Local.id : Local n (fun p => p) := fun i p q hi => ⟨fun h1 _ gs => h1 gs, fun h gs => h i (Nat.le_refl _) hi gs⟩
theorem Local.fork {f g : Cont × Cont → Cont × Cont} (hf : Local n f) (hg : Local n g) : Local n (fun p => forkP (f p) (g p)) := fun i p q hi =>
  ⟨fun h1 h2 gs => by simp only [forkP, forkC]; rw [(hf i p q hi).1 h1 h2, (hg i p q hi).1 h1 h2], fun h gs => by simp only [forkP, forkC]; rw [(hf i p q hi).2 h, (hg i p q hi).2 h]⟩
theorem Local.either {f g : Cont × Cont → Cont × Cont} (lz : Bool) (hf : Local n f) (hg : Local n g) : Local n (fun p => eitherP lz (f p) (g p)) := by
  unfold eitherP
  cases lz
  · exact hf.fork hg
  · exact hg.fork hf
theorem Local.iter {f : Cont × Cont → Cont × Cont} (hf : Local n f) : ∀ m, Local n (iterP f m)
  | 0 => Local.id
  | m + 1 => hf.comp (Local.iter hf m)
theorem Local.opts {f : Cont × Cont → Cont × Cont} (hf : Local n f) (lz : Bool) : ∀ m, Local n (fun p => iterP (optP f lz p) m p)
  | 0 => Local.id
  | m + 1 => (hf.comp (Local.opts hf lz m)).either lz Local.id
theorem Local.take (x : TX) (sp : Spans) (fo nt : Bool) : Local x.l.length (fun p => (takeC x sp fo nt p.2, takeC x sp fo nt p.2)) := fun i p q hi =>
  ⟨fun _ h gs => by
    simp only [takeC]
    by_cases hlt : i < x.l.length
    · rw [h (i + 1) (Nat.le_refl _) hlt]
    · simp [hlt], fun h gs => by
    simp only [takeC]
    by_cases hlt : i < x.l.length
    · rw [h (i + 1) (by omega) hlt]
    · simp [hlt]⟩
theorem Local.stand (x : TX) (ed : Int) : Local n (standP x ed) := fun i p q hi =>
  ⟨fun h _ gs => by simp only [standP, standC]; rw [h], fun h gs => by simp only [standP, standC]; rw [h i (Nat.le_refl _) hi]⟩
theorem Local.mark (x : TX) (s : Nat) : Local n (markP x s) := fun i p q hi =>
  ⟨fun h _ gs => by simp only [markP, markC]; rw [h], fun h gs => by simp only [markP, markC]; rw [h i (Nat.le_refl _) hi]⟩
theorem Local.none : Local n (fun _ => (nowhere, nowhere)) := fun i p q hi => ⟨fun _ _ gs => rfl, fun _ gs => rfl⟩

/-- enough fuel is enough -/
theorem againC_more {part : Cont × Cont → Cont × Cont} (hp : Local n part) (lz : Bool) (rest : Cont) : ∀ (d k i : Nat), n - i < d → d ≤ k → i ≤ n → ∀ gs, againC part lz rest k i gs = againC part lz rest d i gs := by
  intro d
  induction d with
  | zero => intro k i h; omega
  | succ d ih =>
    intro k i h1 h2 h3 gs
    obtain ⟨k, rfl⟩ : ∃ k', k = k' + 1 := ⟨k - 1, by omega⟩
    have e : ∀ gs, (part (nowhere, againC part lz rest k)).1 i gs = (part (nowhere, againC part lz rest d)).1 i gs := by
      refine (hp i (nowhere, againC part lz rest k) (nowhere, againC part lz rest d) h3).1 (fun _ => rfl) (fun j j1 j2 gs => ?_)
      exact ih k j (by omega) (by omega) j2 gs
    unfold againC
    cases lz
    · simp only [Bool.false_eq_true, if_false, forkC]; rw [e]
    · simp only [if_true, forkC]; rw [e]
/-- what a star comes back to -/
def againOf (n : Nat) (part : Cont × Cont → Cont × Cont) (lz : Bool) (rest : Cont) : Cont := againC part lz rest (n + 1)
theorem againOf_eq {part : Cont × Cont → Cont × Cont} (hp : Local n part) (lz : Bool) (rest : Cont) (i : Nat) (hi : i ≤ n) (gs : List Int) :
    againOf n part lz rest i gs = (if lz then forkC rest (part (nowhere, againOf n part lz rest)).1 else forkC (part (nowhere, againOf n part lz rest)).1 rest) i gs := by
  have e : ∀ gs, (part (nowhere, againC part lz rest n)).1 i gs = (part (nowhere, againOf n part lz rest)).1 i gs :=
    (hp i _ _ hi).1 (fun _ => rfl) (fun j j1 j2 gs => (againC_more hp lz rest n (n + 1) j (by omega) (by omega) j2 gs).symm)
  show againC part lz rest (n + 1) i gs = _
  rw [show againC part lz rest (n + 1) = if lz then forkC rest (part (nowhere, againC part lz rest n)).1 else forkC (part (nowhere, againC part lz rest n)).1 rest from rfl]
  cases lz
  · simp only [Bool.false_eq_true, if_false, forkC]; rw [e]
  · simp only [if_true, forkC]; rw [e]
theorem Local.loop (x : TX) {part : Cont × Cont → Cont × Cont} (hp : Local x.l.length part) (lz : Bool) : Local x.l.length (loopP x part lz) := by
  have key : ∀ (i : Nat) (p q : Cont × Cont), SameFrom x.l.length i p.2 q.2 → ∀ d, SameFrom x.l.length i (againC part lz p.2 d) (againC part lz q.2 d) := by
    intro i p q h d
    induction d with
    | zero => intro j _ _ gs; rfl
    | succ d ih =>
      intro j j1 j2 gs
      have e : ∀ gs, (part (nowhere, againC part lz p.2 d)).1 j gs = (part (nowhere, againC part lz q.2 d)).1 j gs :=
        (hp j _ _ j2).1 (fun _ => rfl) (ih.later (by omega))
      unfold againC
      cases lz
      · simp only [Bool.false_eq_true, if_false, forkC]; rw [e, h j j1 j2]
      · simp only [if_true, forkC]; rw [e, h j j1 j2]
  intro i p q hi
  have turn : SameFrom x.l.length (i + 1) p.2 q.2 → ∀ gs, (part (nowhere, againC part lz p.2 (x.l.length + 1))).1 i gs = (part (nowhere, againC part lz q.2 (x.l.length + 1))).1 i gs := fun h =>
    (hp i _ _ hi).1 (fun _ => rfl) (key (i + 1) p q h _)
  refine ⟨fun h1 h2 gs => ?_, fun h gs => ?_⟩
  · unfold loopP eitherP
    cases lz
    · simp only [Bool.false_eq_true, if_false, forkP, forkC]; rw [turn h2, h1]
    · simp only [if_true, forkP, forkC]; rw [turn h2, h1]
  · unfold loopP eitherP
    cases lz
    · simp only [Bool.false_eq_true, if_false, forkP, forkC]; rw [turn (h.later (by omega)), h i (Nat.le_refl _) hi]
    · simp only [if_true, forkP, forkC]; rw [turn (h.later (by omega)), h i (Nat.le_refl _) hi]
theorem Local.times (x : TX) {part : Cont × Cont → Cont × Cont} (hp : Local x.l.length part) (lo hi : Int) (lz : Bool) : Local x.l.length (timesP x part lo hi lz) := by
  unfold timesP
  split
  · exact (hp.iter _).comp (Local.loop x hp lz)
  · exact (hp.iter _).comp (hp.opts lz _)

mutual
theorem semC_local (x : TX) : ∀ c : CT, Local x.l.length (semC x c)
  | .node k sp fo nt ed gr lo hi lz kids => by
    have h1 := semOne_local x kids
    have h2 := semSeq_local x kids
    have h3 := semAlt_local x kids
    unfold semC
    by_cases k0 : k = 0
    · simp only [k0, if_true]; exact Local.take x sp fo nt
    · by_cases k1 : k = 1
      · simp only [k1, if_true]; exact Local.stand x ed
      · by_cases k2 : k = 2
        · simp only [k2, if_true]
          by_cases hg : gr = 0
          · simp only [hg, if_true]; exact h1
          · simp only [hg, if_false]; exact (Local.mark x _).comp (h1.comp (Local.mark x _))
        · by_cases k3 : k = 3
          · simp only [k3, if_true]; exact h2
          · by_cases k4 : k = 4
            · simp only [k4, if_true]; exact h3
            · simp only [k0, k1, k2, k3, k4, if_false]; exact Local.times x h1 lo hi lz
theorem semOne_local (x : TX) : ∀ cs : List CT, Local x.l.length (semOne x cs)
  | [] => Local.id
  | c :: _ => semC_local x c
theorem semSeq_local (x : TX) : ∀ cs : List CT, Local x.l.length (semSeq x cs)
  | [] => Local.id
  | c :: cs => (semC_local x c).comp (semSeq_local x cs)
theorem semAlt_local (x : TX) : ∀ cs : List CT, Local x.l.length (semAlt x cs)
  | [] => Local.none
  | [c] => semC_local x c
  | c :: d :: cs => (semC_local x c).fork (semAlt_local x (d :: cs))
end
end Go.Proofs.YtnbfddjaonlmaaaGreatDoor
