/- The reference: glyph, whatever stands there; Runes; broken. -/
import Derived.Test.YtagehbmipookbaaGreatDoorGl
namespace Go.Proofs.YtagehbmipookbaaGreatDoor
open Go.RowKit
set_option linter.unusedVariables false
set_option maxRecDepth 100000

theorem need_cases (c : Nat) (h : c < 256) : (c < 128 ∧ needOf c = (1, 0, 0)) ∨ (194 ≤ c ∧ c < 224 ∧ needOf c = (2, 128, 191)) ∨
    (224 ≤ c ∧ c < 240 ∧ ∃ lo hi : Int, needOf c = (3, lo, hi) ∧ 128 ≤ lo ∧ hi ≤ 191 ∧ (lo = if c = 224 then 160 else 128) ∧ (hi = if c = 237 then 159 else 191)) ∨
    (240 ≤ c ∧ c < 245 ∧ ∃ lo hi : Int, needOf c = (4, lo, hi) ∧ 128 ≤ lo ∧ hi ≤ 191 ∧ (lo = if c = 240 then 144 else 128) ∧ (hi = if c = 244 then 143 else 191)) ∨
    (128 ≤ c ∧ (c < 194 ∨ 245 ≤ c) ∧ needOf c = (0, 0, 0)) := by
  by_cases h1 : c < 128
  · left; exact ⟨h1, by unfold needOf; rw [if_pos (by omega)]⟩
  by_cases h2 : 194 ≤ c ∧ c < 224
  · right; left; exact ⟨h2.1, h2.2, by unfold needOf; rw [if_neg (by omega), if_pos (by omega)]⟩
  by_cases h3 : 224 ≤ c ∧ c < 240
  · right; right; left
    refine ⟨h3.1, h3.2, ?_⟩
    by_cases e1 : c = 224
    · exact ⟨160, 191, by unfold needOf; rw [if_neg (by omega), if_neg (by omega), if_pos (by omega)], by omega, by omega, by simp [e1], by simp [e1]⟩
    by_cases e2 : c = 237
    · exact ⟨128, 159, by unfold needOf; rw [if_neg (by omega), if_neg (by omega), if_neg (by omega), if_pos (by omega)], by omega, by omega, by simp [e2], by simp [e2]⟩
    exact ⟨128, 191, by unfold needOf; rw [if_neg (by omega), if_neg (by omega), if_neg (by omega), if_neg (by omega), if_pos (by omega)], by omega, by omega, by simp [e1], by simp [e2]⟩
  by_cases h4 : 240 ≤ c ∧ c < 245
  · right; right; right; left
    refine ⟨h4.1, h4.2, ?_⟩
    by_cases e1 : c = 240
    · exact ⟨144, 191, by unfold needOf; rw [if_neg (by omega), if_neg (by omega), if_neg (by omega), if_neg (by omega), if_neg (by omega), if_pos (by omega)], by omega, by omega, by simp [e1], by simp [e1]⟩
    by_cases e2 : c = 244
    · exact ⟨128, 143, by unfold needOf; rw [if_neg (by omega), if_neg (by omega), if_neg (by omega), if_neg (by omega), if_neg (by omega), if_neg (by omega), if_neg (by omega), if_pos (by omega)], by omega, by omega, by simp [e2], by simp [e2]⟩
    exact ⟨128, 191, by unfold needOf; rw [if_neg (by omega), if_neg (by omega), if_neg (by omega), if_neg (by omega), if_neg (by omega), if_neg (by omega), if_pos (by omega)], by omega, by omega, by simp [e1], by simp [e2]⟩
  right; right; right; right
  exact ⟨by omega, by omega, by unfold needOf; rw [if_neg (by omega), if_neg (by omega), if_neg (by omega), if_neg (by omega), if_neg (by omega), if_neg (by omega), if_neg (by omega), if_neg (by omega)]⟩

theorem glyph_bad (s : ByteArray) (i : Nat) (w : World) (hd : Utf8.decode s i = (65533, 1)) (ho : okAt s i = false)
    (h : Calls Tryz.prog 20 #[.string s, .int .i64 i] w fun e w' => e = .returned (.tuple #[.agg #[.int .i64 65533, .int .i64 i, .int .i64 1], .bool false]) ∧ Kept Nil w w') :
    Calls Tryz.prog 20 #[.string s, .int .i64 i] w fun e w' => e = .returned (.tuple #[.agg #[.int .i64 (Utf8.decode s i).1, .int .i64 i, .int .i64 (Utf8.decode s i).2], .bool (okAt s i)]) ∧ Kept Nil w w' := by
  rw [hd, ho]; exact h
theorem glyph_good (s : ByteArray) (i : Nat) (w : World) {r : Int} {n : Nat} {m : Int} (hd : ((Utf8.decode s i).1 : Int) = r) (hd2 : (Utf8.decode s i).2 = n) (hm : m = n) (ho : okAt s i = true)
    (h : Calls Tryz.prog 20 #[.string s, .int .i64 i] w fun e w' => e = .returned (.tuple #[.agg #[.int .i64 r, .int .i64 i, .int .i64 m], .bool true]) ∧ Kept Nil w w') :
    Calls Tryz.prog 20 #[.string s, .int .i64 i] w fun e w' => e = .returned (.tuple #[.agg #[.int .i64 (Utf8.decode s i).1, .int .i64 i, .int .i64 (Utf8.decode s i).2], .bool (okAt s i)]) ∧ Kept Nil w w' := by
  rw [hd, hd2, ← hm, ho]; exact h

theorem glyph_any (s : ByteArray) (i : Nat) (w : World) (hi : i < s.size) (hs : s.size ≤ 1000) :
    Calls Tryz.prog 20 #[.string s, .int .i64 i] w fun e w' => e = .returned (.tuple #[.agg #[.int .i64 (Utf8.decode s i).1, .int .i64 i, .int .i64 (Utf8.decode s i).2], .bool (okAt s i)]) ∧ Kept Nil w w' := by
  have e0 := at!_eq s i hi
  have l0 := at!_lt s i
  have l1 := at!_lt s (i + 1)
  have l2 := at!_lt s (i + 2)
  have l3 := at!_lt s (i + 3)
  have hde := decode_eq s i
  have hok : okAt s i = okN (at! s i) (at! s (i + 1)) (at! s (i + 2)) (at! s (i + 3)) (decide (i + 1 < s.size)) (decide (i + 2 < s.size)) (decide (i + 3 < s.size)) := rfl
  rcases need_cases (at! s i) l0 with ⟨h1, hn⟩ | ⟨h1, h2, hn⟩ | ⟨h1, h2, lo, hi', hn, hlo, hhi, elo, ehi⟩ | ⟨h1, h2, lo, hi', hn, hlo, hhi, elo, ehi⟩ | ⟨h1, h2, hn⟩
  · obtain ⟨d, o⟩ := dec1 (at! s i) (at! s (i + 1)) (at! s (i + 2)) (at! s (i + 3)) (decide (i + 1 < s.size)) (decide (i + 2 < s.size)) (decide (i + 3 < s.size)) h1
    rw [← hde] at d
    rw [← hok] at o
    exact glyph_good s i w (r := (s[i]).toNat) (n := 1) (by rw [d, e0]) (by rw [d]) rfl o (glyph1 s i w hi hs (by omega))
  · rw [e0] at hn
    by_cases k1 : i + 1 < s.size
    · have e1 := at!_eq s (i + 1) k1
      by_cases hb : 128 ≤ at! s (i + 1) ∧ at! s (i + 1) ≤ 191
      · obtain ⟨d, o⟩ := dec2 (at! s i) (at! s (i + 1)) (at! s (i + 2)) (at! s (i + 3)) (decide (i + 2 < s.size)) (decide (i + 3 < s.size)) ⟨h1, h2⟩ hb
        rw [show true = decide (i + 1 < s.size) from by simp [k1]] at d o
        rw [← hde] at d
        rw [← hok] at o
        exact glyph_good s i w (n := 2) (by rw [d]; simp only [e0, e1]; omega) (by rw [d]) rfl (o.trans (by simp [k1])) (glyph2 s i 128 191 w hi hs hn k1 (by omega) (by omega) (by omega) (by omega))
      · obtain ⟨d, o⟩ := dec0 (at! s i) (at! s (i + 1)) (at! s (i + 2)) (at! s (i + 3)) (decide (i + 1 < s.size)) (decide (i + 2 < s.size)) (decide (i + 3 < s.size)) (by omega) l0 l1 l2 l3 (fun _ _ h => hb h.2) (by omega) (by omega)
        rw [← hde] at d
        rw [← hok] at o
        exact glyph_bad s i w d o (glyphC s i 2 128 191 w hi hs hn (by omega) (by omega) (by omega) (by omega))
    · obtain ⟨d, o⟩ := dec0 (at! s i) (at! s (i + 1)) (at! s (i + 2)) (at! s (i + 3)) (decide (i + 1 < s.size)) (decide (i + 2 < s.size)) (decide (i + 3 < s.size)) (by omega) l0 l1 l2 l3 (fun _ _ h => k1 (by simpa using h.1)) (by omega) (by omega)
      rw [← hde] at d
      rw [← hok] at o
      exact glyph_bad s i w d o (glyphB s i 2 128 191 w hi hs hn (by omega) (by omega) (by omega))
  · rw [e0] at hn
    by_cases k2 : i + 2 < s.size
    · have k1 : i + 1 < s.size := by omega
      have e1 := at!_eq s (i + 1) k1
      have e2 := at!_eq s (i + 2) k2
      by_cases hb : lo ≤ ((s[i + 1]).toNat : Int) ∧ ((s[i + 1]).toNat : Int) ≤ hi'
      · cases t2 : tailOf ((s[i + 2]).toNat : Int)
        · have t2' : ¬ (128 ≤ at! s (i + 2) ∧ at! s (i + 2) ≤ 191) := by simp [tailOf] at t2; omega
          obtain ⟨d, o⟩ := dec0 (at! s i) (at! s (i + 1)) (at! s (i + 2)) (at! s (i + 3)) (decide (i + 1 < s.size)) (decide (i + 2 < s.size)) (decide (i + 3 < s.size)) (by omega) l0 l1 l2 l3 (by omega) (fun _ _ h => t2' ⟨h.2.2.2.2.1, h.2.2.2.2.2.1⟩) (by omega)
          rw [← hde] at d
          rw [← hok] at o
          exact glyph_bad s i w d o (glyph3x2 s i lo hi' w hi hs hn k2 hb.1 hb.2 hlo hhi t2)
        · have t2' : 128 ≤ at! s (i + 2) ∧ at! s (i + 2) ≤ 191 := by simp [tailOf] at t2; omega
          obtain ⟨d, o⟩ := dec3 (at! s i) (at! s (i + 1)) (at! s (i + 2)) (at! s (i + 3)) (decide (i + 3 < s.size)) h2 h1 (by omega) t2' (fun e => by rw [e] at elo; simp at elo; omega) (fun e => by rw [e] at ehi; simp at ehi; omega)
          have hd : Utf8.decode s i = ((at! s i % 16) * 4096 + (at! s (i + 1) % 64) * 64 + at! s (i + 2) % 64, 3) := by rw [hde, ← d]; simp [k1, k2]
          have ho : okAt s i = true := by rw [hok, ← o]; simp [k1, k2]
          exact glyph_good s i w (n := 3) (by rw [hd]; simp only [e0, e1, e2]; omega) (by rw [hd]) rfl ho (glyph3 s i lo hi' w hi hs hn k2 hb.1 hb.2 hlo hhi t2)
      · obtain ⟨d, o⟩ := dec0 (at! s i) (at! s (i + 1)) (at! s (i + 2)) (at! s (i + 3)) (decide (i + 1 < s.size)) (decide (i + 2 < s.size)) (decide (i + 3 < s.size)) (by omega) l0 l1 l2 l3 (by omega) (fun _ _ h => by
          obtain ⟨_, _, a1, a2, _, _, a3, a4⟩ := h
          apply hb
          rw [← e1]
          refine ⟨?_, ?_⟩
          · rw [elo]; split
            · rename_i e; have := a3 e; omega
            · omega
          · rw [ehi]; split
            · rename_i e; have := a4 e; omega
            · omega) (by omega)
        rw [← hde] at d
        rw [← hok] at o
        exact glyph_bad s i w d o (glyphC s i 3 lo hi' w hi hs hn (by omega) (by omega) (by omega) (by omega))
    · obtain ⟨d, o⟩ := dec0 (at! s i) (at! s (i + 1)) (at! s (i + 2)) (at! s (i + 3)) (decide (i + 1 < s.size)) (decide (i + 2 < s.size)) (decide (i + 3 < s.size)) (by omega) l0 l1 l2 l3 (by omega) (fun _ _ h => k2 (by simpa using h.2.1)) (by omega)
      rw [← hde] at d
      rw [← hok] at o
      exact glyph_bad s i w d o (glyphB s i 3 lo hi' w hi hs hn (by omega) (by omega) (by omega))
  · rw [e0] at hn
    by_cases k3 : i + 3 < s.size
    · have k1 : i + 1 < s.size := by omega
      have k2 : i + 2 < s.size := by omega
      have e1 := at!_eq s (i + 1) k1
      have e2 := at!_eq s (i + 2) k2
      have e3 := at!_eq s (i + 3) k3
      by_cases hb : lo ≤ ((s[i + 1]).toNat : Int) ∧ ((s[i + 1]).toNat : Int) ≤ hi'
      · cases t2 : tailOf ((s[i + 2]).toNat : Int)
        · have t2' : ¬ (128 ≤ at! s (i + 2) ∧ at! s (i + 2) ≤ 191) := by simp [tailOf] at t2; omega
          obtain ⟨d, o⟩ := dec0 (at! s i) (at! s (i + 1)) (at! s (i + 2)) (at! s (i + 3)) (decide (i + 1 < s.size)) (decide (i + 2 < s.size)) (decide (i + 3 < s.size)) (by omega) l0 l1 l2 l3 (by omega) (by omega) (fun _ _ h => t2' ⟨h.2.2.2.2.2.1, h.2.2.2.2.2.2.1⟩)
          rw [← hde] at d
          rw [← hok] at o
          exact glyph_bad s i w d o (glyph4x2 s i lo hi' w hi hs hn k3 hb.1 hb.2 hlo hhi t2)
        · have t2' : 128 ≤ at! s (i + 2) ∧ at! s (i + 2) ≤ 191 := by simp [tailOf] at t2; omega
          cases t3 : tailOf ((s[i + 3]).toNat : Int)
          · have t3' : ¬ (128 ≤ at! s (i + 3) ∧ at! s (i + 3) ≤ 191) := by simp [tailOf] at t3; omega
            obtain ⟨d, o⟩ := dec0 (at! s i) (at! s (i + 1)) (at! s (i + 2)) (at! s (i + 3)) (decide (i + 1 < s.size)) (decide (i + 2 < s.size)) (decide (i + 3 < s.size)) (by omega) l0 l1 l2 l3 (by omega) (by omega) (fun _ _ h => t3' ⟨h.2.2.2.2.2.2.2.1, h.2.2.2.2.2.2.2.2.1⟩)
            rw [← hde] at d
            rw [← hok] at o
            exact glyph_bad s i w d o (glyph4x3 s i lo hi' w hi hs hn k3 hb.1 hb.2 hlo hhi t2 t3)
          · have t3' : 128 ≤ at! s (i + 3) ∧ at! s (i + 3) ≤ 191 := by simp [tailOf] at t3; omega
            obtain ⟨d, o⟩ := dec4 (at! s i) (at! s (i + 1)) (at! s (i + 2)) (at! s (i + 3)) h2 h1 (by omega) t2' t3' (fun e => by rw [e] at elo; simp at elo; omega) (fun e => by rw [e] at ehi; simp at ehi; omega)
            have hd : Utf8.decode s i = ((at! s i % 8) * 262144 + (at! s (i + 1) % 64) * 4096 + (at! s (i + 2) % 64) * 64 + at! s (i + 3) % 64, 4) := by rw [hde, ← d]; simp [k1, k2, k3]
            have ho : okAt s i = true := by rw [hok, ← o]; simp [k1, k2, k3]
            exact glyph_good s i w (n := 4) (by rw [hd]; simp only [e0, e1, e2, e3]; omega) (by rw [hd]) rfl ho (glyph4 s i lo hi' w hi hs hn k3 hb.1 hb.2 hlo hhi t2 t3)
      · obtain ⟨d, o⟩ := dec0 (at! s i) (at! s (i + 1)) (at! s (i + 2)) (at! s (i + 3)) (decide (i + 1 < s.size)) (decide (i + 2 < s.size)) (decide (i + 3 < s.size)) (by omega) l0 l1 l2 l3 (by omega) (by omega) (fun _ _ h => by
          obtain ⟨_, _, _, a1, a2, _, _, _, _, a3, a4⟩ := h
          apply hb
          rw [← e1]
          refine ⟨?_, ?_⟩
          · rw [elo]; split
            · rename_i e; have := a3 e; omega
            · omega
          · rw [ehi]; split
            · rename_i e; have := a4 e; omega
            · omega)
        rw [← hde] at d
        rw [← hok] at o
        exact glyph_bad s i w d o (glyphC s i 4 lo hi' w hi hs hn (by omega) (by omega) (by omega) (by omega))
    · obtain ⟨d, o⟩ := dec0 (at! s i) (at! s (i + 1)) (at! s (i + 2)) (at! s (i + 3)) (decide (i + 1 < s.size)) (decide (i + 2 < s.size)) (decide (i + 3 < s.size)) (by omega) l0 l1 l2 l3 (by omega) (by omega) (fun _ _ h => k3 (by simpa using h.2.2.1))
      rw [← hde] at d
      rw [← hok] at o
      exact glyph_bad s i w d o (glyphB s i 4 lo hi' w hi hs hn (by omega) (by omega) (by omega))
  · obtain ⟨d, o⟩ := dec0 (at! s i) (at! s (i + 1)) (at! s (i + 2)) (at! s (i + 3)) (decide (i + 1 < s.size)) (decide (i + 2 < s.size)) (decide (i + 3 < s.size)) (by omega) l0 l1 l2 l3 (by omega) (by omega) (by omega)
    rw [← hde] at d
    rw [← hok] at o
    rw [e0] at hn
    exact glyph_bad s i w d o (glyphA s i w hi hs hn)
end Go.Proofs.YtagehbmipookbaaGreatDoor
