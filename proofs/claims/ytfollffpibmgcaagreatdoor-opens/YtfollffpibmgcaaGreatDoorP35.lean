/- The reference: Runes, broken. The reference: Form: the place of what can't stand. The reference's tree in memory, and its small calls: at, behind. -/
import Derived.Test.YtfollffpibmgcaaGreatDoorP34
import Derived.Deep.LoopGhost
import Derived.Maps.AppendAt
import Derived.Test.YtfollffpibmgcaaGreatDoorP33
import Derived.Test.YtfollffpibmgcaaGreatDoorP02
import Derived.Test.YtfollffpibmgcaaGreatDoorP22
set_option linter.unusedVariables false
set_option maxRecDepth 100000
namespace Go.Proofs.YtfollffpibmgcaaGreatDoor
open Go.RowKit
set_option maxRecDepth 100000
theorem decode_le4 (s : ByteArray) (i : Nat) : (Utf8.decode s i).2 ≤ 4 := by
 rw [decode_eq]
 unfold decN
 repeat' split
 all_goals first | (simp; done) | (simp only; split <;> simp)
abbrev Tri := Value × Value × Value
def flat3 : List Tri → List Value
 | [] => []
 | q :: qs => q.1 :: q.2.1 :: q.2.2 :: flat3 qs
theorem flat3_append (a b : List Tri) : flat3 (a ++ b) = flat3 a ++ flat3 b := by
 induction a with
 | nil => rfl
 | cons q qs ih => simp [flat3, ih]
theorem flat3_get (qs : List Tri) (i : Nat) (h : i < qs.length) : (flat3 qs)[i * 3]? = some qs[i].1 ∧ (flat3 qs)[i * 3 + 1]? = some qs[i].2.1 ∧ (flat3 qs)[i * 3 + 2]? = some qs[i].2.2 := by
 induction qs generalizing i with
 | nil => simp at h
 | cons q qs ih =>
  cases i with
  | zero => simp [flat3]
  | succ i =>
   have hi : i < qs.length := by simpa using h
   have := ih i hi
   simp only [flat3, List.getElem_cons_succ]
   rw [show (i + 1) * 3 = i * 3 + 1 + 1 + 1 by omega, show i * 3 + 1 + 1 + 1 + 1 = (i * 3 + 1) + 1 + 1 + 1 by omega, show i * 3 + 1 + 1 + 1 + 2 = (i * 3 + 2) + 1 + 1 + 1 by omega]
   simpa using this
def tri (s : ByteArray) (p : Nat × Int) : Tri := (.int .i64 p.2, .int .i64 p.1, .int .i64 (Utf8.decode s p.1).2)
def scan (s : ByteArray) : List (Nat × Int) := scanFrom s (s.size + 1) 0
theorem Tryz.infoGlyph : (Tryz.prog.info? 115).map (fun i => (i.zero, i.size, i.bytes)) = some (some (.agg #[.int .i64 0, .int .i64 0, .int .i64 0]), 3, 24) := by kernel_rfl
theorem tri_news {w : World} (q : Tri) (j : Nat) (u : Value) (h : [q.1, q.2.1, q.2.2][j]? = some u) : (w.alloc (.cells #[q.1, q.2.1, q.2.2] 115)).cell? (Addr.add ⟨w.heap.size, 0, none⟩ j) = some u := by
 have hb := Blk.new w #[q.1, q.2.1, q.2.2] 115
 match j, h with
 | 0, h => simp at h; subst h; exact hb.cell 0
 | 1, h => simp at h; subst h; exact hb.cell 1
 | 2, h => simp at h; subst h; exact hb.cell 2
 | j + 3, h => simp at h
theorem scanFrom_step (s : ByteArray) (m pos : Nat) (hm : 0 < m) (h : pos < s.size) : scanFrom s m pos = (pos, ((Utf8.decode s pos).1 : Int)) :: scanFrom s (m - 1) (pos + (Utf8.decode s pos).2) := by
 obtain ⟨m', rfl⟩ : ∃ m', m = m' + 1 := ⟨m - 1, by omega⟩
 rw [show scanFrom s (m' + 1) pos = if pos < s.size then (pos, ((Utf8.decode s pos).1 : Int)) :: scanFrom s m' (pos + (Utf8.decode s pos).2) else [] from rfl, if_pos h]
 rfl
set_option maxHeartbeats 1000000 in
theorem runes_any (s : ByteArray) (w : World) (hs : s.size ≤ 1000) :
  Calls Tryz.prog 20 #[.string s, .bool false] w fun e w' => ∃ v, e = .returned v ∧ w'.ownsRow w.heap.size 115 3 v (scan s).length (flat3 ((scan s).map (tri s))) ∧ Kept Nil w w' := by
 obtain ⟨i0, hi0, hz0, hz1, hz2⟩ := info_parts Tryz.infoGlyph
 unfold scan
 go_enter Tryz.func20, Tryz.ntmps20
 go_wp2_with fail
 go_loopg [5, 6] s.size (fun kk v a wr => ∃ (pos m : Nat) (l : List (Nat × Int)) (qs : List Tri), a = .int .i64 pos ∧ wr.ownsRow w.heap.size 115 3 v qs.length (flat3 qs) ∧ Hid (qs = l.map (tri s)) ∧ Hid (l ++ scanFrom s m pos = scanFrom s (s.size + 1) 0) ∧ kk = s.size - pos ∧ kk < m ∧ qs.length ≤ pos ∧ qs.length ≤ s.size ∧ pos ≤ s.size + 4 ∧ Kept Nil w wr)
 case atStart => exact ⟨0, s.size + 1, [], [], rfl, World.ownsRow_nil _ _ _ _, rfl, rfl, rfl, by omega, by simp, by simp, by omega, Kept.refl _ _⟩
 case round =>
  obtain ⟨pos, m, l, qs, rfl, hown, HQ, HL, rfl, hm, hql, hqs, hp4, hk⟩ := hrel
  have hksz := hk.size
  by_cases hlt : pos < s.size
  ·have hltI : (pos : Int) < (s.size : Int) := by omega
   have hd1 := decode_pos s pos hlt
   have hd4 := decode_le4 s pos
   have HST : Hid (scanFrom s m pos = (pos, ((Utf8.decode s pos).1 : Int)) :: scanFrom s (m - 1) (pos + (Utf8.decode s pos).2)) := scanFrom_step s m pos (by omega) hlt
   go_wp2_with fail
   refine (glyph_any s pos _ hlt hs).mono ?_
   rintro e w2 ⟨rfl, hk2⟩
   have HT : Hid (tri s (pos, ((Utf8.decode s pos).1 : Int)) = (.int .i64 (Utf8.decode s pos).1, .int .i64 pos, .int .i64 (Utf8.decode s pos).2)) := rfl
   generalize (Utf8.decode s pos).1 = c at HST HT ⊢
   generalize (Utf8.decode s pos).2 = wd at hd1 hd4 HST HT ⊢
   have own2 := ownsRow_kept hown hk2 (fun _ _ hx => hx)
   have s2 := hk2.size
   go_wp2_with (at_builtin; refine wpList_append_own_at _ rfl _ _ 69 rfl w.heap.size 115 i0 _ 3 24 Tryz.underlying69 hi0 hz0 hz1 hz2 rfl (by decide) _ _ _ rfl ((own2.alloc _).alloc _) ⟨w2.heap.size + 1, 0, none⟩ 1 1 [.int .i64 (c : Int), .int .i64 (pos : Int), .int .i64 (wd : Int)] rfl rfl ?c1 ?c2 ?c3 ?c4 ?c5 ?_)
   case c1 =>
    have := @tri_news (w2.alloc (.cells #[.int .i64 (c : Int), .int .i64 (pos : Int), .int .i64 (wd : Int)] 115)) (.int .i64 (c : Int), .int .i64 (pos : Int), .int .i64 (wd : Int))
    rw [size_alloc1] at this
    exact this
   case c2 => intro u hu; simp at hu; rcases hu with rfl | rfl | rfl <;> rfl
   case c3 => unfold maxLen; omega
   case c4 => omega
   case c5 => simp; omega
   intro v' w7 hown' hgrow hnil hloc
   have b7 : Blk w7 w2.heap.size #[.int .i64 (c : Int), .int .i64 (pos : Int), .int .i64 (wd : Int)] 115 := by
    have b2 := (Blk.new w2 #[.int .i64 (c : Int), .int .i64 (pos : Int), .int .i64 (wd : Int)] 115).alloc (.cells #[.int .i64 (c : Int), .int .i64 (pos : Int), .int .i64 (wd : Int)] 115)
    exact b2.kept ((Kept.refl (fun i => u5.ownBlock = some i) _).grown hgrow (fun j hj => Or.inl hj)) (fun hx => by have := (ownsRow_block own2 hx).2; omega)
   have k7 : Kept Nil w w7 := (((hk.trans hk2).alloc _).alloc _).grown hgrow (fun j hj => Or.inr (ownsRow_block own2 hj).1)
   have hown7 : w7.ownsRow w.heap.size 115 3 v' (qs ++ [((Value.int .i64 (c : Int), Value.int .i64 (pos : Int), Value.int .i64 (wd : Int)) : Tri)]).length (flat3 (qs ++ [((Value.int .i64 (c : Int), Value.int .i64 (pos : Int), Value.int .i64 (wd : Int)) : Tri)])) := by
    rw [flat3_append]; simpa [flat3] using hown'
   clear hown' hgrow hnil hloc hown own2 hk hk2
   have d2 : w7.cell? ⟨w2.heap.size, 2, none⟩ = some (.int .i64 (wd : Int)) := b7.cell 2
   go_wp2_with fail
   go_roundg (s.size - (pos + wd))
   case measure => omega
   case rel =>
    refine ⟨pos + wd, m - 1, l ++ [(pos, (c : Int))], _, by go_num, hown7, ?_, ?_, rfl, by omega, by simp; omega, by simp; omega, by omega, k7⟩
    ·show _ = _
     rw [List.map_append, List.map_cons, List.map_nil, HT.out, HQ.out]
    ·show _ = _
     rw [← HL.out, HST.out]; simp
  ·have HLL : Hid (l = scanFrom s (s.size + 1) 0) := by
    show _ = _
    have := HL.out
    rw [scanFrom_end s m pos hlt, List.append_nil] at this
    exact this
   obtain ⟨ao, cc, hv⟩ := ownsRow_slice hown
   rw [hv] at hown ⊢
   go_wp2_with fail
   go_ret
   refine ⟨_, rfl, ?_, hk⟩
   rw [← HLL.out, ← HQ.out]
   have : l.length = qs.length := by rw [HQ.out]; simp
   rw [this]
   exact hown
def brokenOf (s : ByteArray) : Int :=
 match (scan s).find? (fun p => !okAt s p.1) with
 | some p => p.1
 | none => -1
theorem brokenOf_hit {s : ByteArray} {l r : List (Nat × Int)} {p : Nat × Int} (hl : ∀ p ∈ l, (!okAt s p.1) = false) (h : l ++ p :: r = scan s) (hp : okAt s p.1 = false) : brokenOf s = p.1 := by
 unfold brokenOf
 rw [← h, List.find?_append, List.find?_eq_none.2 (fun p hp => by simpa using hl p hp)]
 simp [hp]
theorem brokenOf_none {s : ByteArray} {l : List (Nat × Int)} (hl : ∀ p ∈ l, (!okAt s p.1) = false) (h : l = scan s) : brokenOf s = -1 := by
 unfold brokenOf
 rw [← h, List.find?_eq_none.2 (fun p hp => by simpa using hl p hp)]
theorem broken_any (s : ByteArray) (w : World) (hs : s.size ≤ 1000) :
  Calls Tryz.prog 18 #[.string s] w fun e w' => e = .returned (.int .i64 (brokenOf s)) ∧ Kept Nil w w' := by
 go_enter Tryz.func18, Tryz.ntmps18
 go_wp2_with fail
 go_loopg [3] s.size (fun kk a wr => ∃ (pos m : Nat) (l : List (Nat × Int)), a = .int .i64 pos ∧ Hid (∀ p ∈ l, (!okAt s p.1) = false) ∧ Hid (l ++ scanFrom s m pos = scanFrom s (s.size + 1) 0) ∧ kk = s.size - pos ∧ kk < m ∧ pos ≤ s.size + 4 ∧ Kept Nil w wr)
 case atStart => exact ⟨0, s.size + 1, [], rfl, fun p hp => by simp at hp, rfl, rfl, by omega, by omega, Kept.refl _ _⟩
 case round =>
  obtain ⟨pos, m, l, rfl, HO, HL, rfl, hm, hp4, hk⟩ := hrel
  by_cases hlt : pos < s.size
  ·have hltI : (pos : Int) < (s.size : Int) := by omega
   have hd1 := decode_pos s pos hlt
   have hd4 := decode_le4 s pos
   have HST : Hid (scanFrom s m pos = (pos, ((Utf8.decode s pos).1 : Int)) :: scanFrom s (m - 1) (pos + (Utf8.decode s pos).2)) := scanFrom_step s m pos (by omega) hlt
   cases hok : okAt s pos
   ·go_wp2_with fail
    refine (glyph_any s pos _ hlt hs).mono ?_
    rintro e w2 ⟨rfl, hk2⟩
    rw [hok]
    generalize (Utf8.decode s pos).1 = c at HST ⊢
    generalize (Utf8.decode s pos).2 = wd at hd1 hd4 HST ⊢
    go_wp2_with fail
    go_ret
    refine ⟨?_, (hk.trans hk2).alloc _⟩
    have := brokenOf_hit (p := (pos, (c : Int))) (r := scanFrom s (m - 1) (pos + wd)) HO.out (HST.out ▸ HL.out) hok
    rw [this]; rfl
   ·go_wp2_with fail
    refine (glyph_any s pos _ hlt hs).mono ?_
    rintro e w2 ⟨rfl, hk2⟩
    rw [hok]
    generalize (Utf8.decode s pos).1 = c at HST ⊢
    generalize (Utf8.decode s pos).2 = wd at hd1 hd4 HST ⊢
    go_wp2_with fail
    go_roundg (s.size - (pos + wd))
    case measure => omega
    case rel =>
     refine ⟨pos + wd, m - 1, l ++ [(pos, (c : Int))], by go_num, ?_, ?_, rfl, by omega, by omega, (hk.trans hk2).alloc _⟩
     ·intro p hp
      rcases List.mem_append.1 hp with hp | hp
      ·exact HO.out p hp
      ·simp at hp; subst hp; simp [hok]
     ·show _ = _
      rw [← HL.out, HST.out]; simp
  ·go_wp2_with fail
   go_ret
   refine ⟨?_, hk⟩
   have := brokenOf_none HO.out (by have := HL.out; rw [scanFrom_end s m pos hlt, List.append_nil] at this; exact this)
   rw [this]; rfl
set_option maxRecDepth 100000
theorem inv_of {c' : Sc} {m : M} {o n : Int} {z : Bool} {i : Int} (h : some (⟨m, o, n, z⟩ : Sc) = some c') (h1 : 0 ≤ o ∧ o ≤ i + 1) (h2 : 0 ≤ n ∧ n ≤ 8) (h3 : (m = .low ∨ m = .high) → n ≤ 2) : c'.inv (i + 1) := by
 cases h; exact ⟨h1.1, h1.2, h2.1, h2.2, h3⟩
theorem scAtom_inv {c c' : Sc} {r i : Int} (h : scAtom c r = some c') (h1 : 0 ≤ c.o ∧ c.o ≤ i) (h2 : 0 ≤ c.n ∧ c.n ≤ 8) : c'.inv (i + 1) := by
 unfold scAtom at h
 split at h
 ·exact inv_of h (by omega) h2 (by simp)
 split at h
 ·exact inv_of h (by omega) h2 (by simp)
 split at h
 ·split at h
  ·exact inv_of h (by omega) h2 (by simp)
  ·cases h
 split at h
 ·exact inv_of h (by omega) h2 (by simp)
 split at h
 ·exact inv_of h (by omega) h2 (by simp)
 split at h
 ·exact inv_of h (by omega) h2 (by simp)
 split at h
 ·exact inv_of h (by omega) h2 (by simp)
 split at h
 ·exact inv_of h (by omega) h2 (by simp)
 split at h
 ·cases h
 ·exact inv_of h (by omega) h2 (by simp)
theorem scItem_inv {c c' : Sc} {r i : Int} (h : scItem c r = some c') (h1 : 0 ≤ c.o ∧ c.o ≤ i) (h2 : 0 ≤ c.n ∧ c.n ≤ 8) : c'.inv (i + 1) := by
 unfold scItem at h
 split at h
 ·exact inv_of h (by omega) h2 (by simp)
 split at h
 ·cases h
 ·exact inv_of h (by omega) h2 (by simp)
theorem scStep_inv {c c' : Sc} {r i : Int} (h : scStep c r = some c') (hc : c.inv i) : c'.inv (i + 1) := by
 obtain ⟨m, o, n, z⟩ := c
 obtain ⟨h1, h2, h3, h4, h5⟩ := hc
 simp only at h1 h2 h3 h4 h5
 have a1 : 0 ≤ o ∧ o ≤ i := ⟨h1, h2⟩
 have a2 : 0 ≤ n ∧ n ≤ 8 := ⟨h3, h4⟩
 cases m
 case begin => exact scAtom_inv h a1 a2
 case more => exact scAtom_inv h a1 a2
 case open_ =>
  simp only [scStep] at h
  split at h
  ·exact inv_of h (by omega) a2 (by simp)
  ·exact scAtom_inv h a1 a2
 case query =>
  simp only [scStep, scBracket] at h
  split at h
  ·exact inv_of h (by omega) a2 (by simp)
  split at h
  ·exact inv_of h (by omega) a2 (by simp)
  split at h
  ·exact inv_of h (by omega) (by omega) (by simp)
  ·cases h
 case colon =>
  simp only [scStep, scBracket] at h
  split at h
  ·exact inv_of h (by omega) a2 (by simp)
  ·cases h
 case name =>
  simp only [scStep, scBracket] at h
  split at h
  ·rename_i hx
   simp only [Bool.and_eq_true, decide_eq_true_eq] at hx
   exact inv_of h (by omega) (by omega) (by simp)
  split at h
  ·exact inv_of h (by omega) a2 (by simp)
  ·cases h
 case escape =>
  simp only [scStep] at h
  split at h
  ·exact inv_of h (by omega) a2 (by simp)
  ·cases h
 case low =>
  have h6 := h5 (by simp)
  simp only [scStep, scCounts] at h
  split at h
  ·split at h
   ·cases h
   ·rename_i hx
    simp only [Bool.or_eq_true, beq_iff_eq, Bool.and_eq_true, not_or] at hx
    exact inv_of h (by omega) (by omega) (by omega)
  split at h
  ·exact inv_of h (by omega) (by omega) (by simp)
  split at h
  ·exact inv_of h (by omega) a2 (by simp)
  ·cases h
 case high =>
  have h6 := h5 (by simp)
  simp only [scStep, scCounts] at h
  split at h
  ·split at h
   ·cases h
   ·rename_i hx
    simp only [Bool.or_eq_true, beq_iff_eq, Bool.and_eq_true, not_or] at hx
    exact inv_of h (by omega) (by omega) (by omega)
  split at h
  ·exact inv_of h (by omega) (by omega) (by simp)
  split at h
  ·exact inv_of h (by omega) a2 (by simp)
  ·cases h
 case times =>
  simp only [scStep] at h
  split at h
  ·exact inv_of h (by omega) a2 (by simp)
  split at h
  ·exact inv_of h (by omega) a2 (by simp)
  split at h
  ·exact inv_of h (by omega) a2 (by simp)
  split at h
  ·exact inv_of h (by omega) (by omega) (by simp)
  ·exact scAtom_inv h a1 a2
 case lazy =>
  simp only [scStep] at h
  split at h
  ·exact inv_of h (by omega) a2 (by simp)
  ·exact scAtom_inv h a1 a2
 case class_ =>
  simp only [scStep, scClass] at h
  split at h
  ·exact inv_of h (by omega) a2 (by simp)
  split at h
  ·cases h
  ·exact scItem_inv h a1 a2
 case first =>
  simp only [scStep, scClass] at h
  split at h
  ·cases h
  ·exact scItem_inv h a1 a2
 case items =>
  simp only [scStep, scClass] at h
  split at h
  ·exact inv_of h (by omega) a2 (by simp)
  ·exact scItem_inv h a1 a2
 case one =>
  simp only [scStep, scClass] at h
  split at h
  ·exact inv_of h (by omega) a2 (by simp)
  split at h
  ·exact inv_of h (by omega) a2 (by simp)
  ·exact scItem_inv h a1 a2
 case upto =>
  simp only [scStep, scClass] at h
  split at h
  ·exact inv_of h (by omega) a2 (by simp)
  split at h
  ·cases h
  ·exact inv_of h (by omega) a2 (by simp)
 case upescape =>
  simp only [scStep, scClass] at h
  split at h
  ·exact inv_of h (by omega) a2 (by simp)
  ·cases h
 case escape1 =>
  simp only [scStep, scClass] at h
  split at h
  ·exact inv_of h (by omega) a2 (by simp)
  split at h
  ·exact inv_of h (by omega) a2 (by simp)
  ·cases h
def isDone : M → Bool
 | .begin | .more | .times | .lazy => true
 | _ => false
def sc0 : Sc := ⟨.begin, 0, 0, false⟩
def formOf (n : Int) : Sc → List (Nat × Int) → Int
 | c, [] => if isDone c.m && c.o == 0 then -1 else n
 | c, p :: l => match scStep c p.2 with
  | some c' => formOf n c' l
  | none => p.1
theorem formOf_some {n : Int} {c c' : Sc} {p : Nat × Int} {l : List (Nat × Int)} (h : scStep c p.2 = some c') : formOf n c (p :: l) = formOf n c' l := by
 rw [show formOf n c (p :: l) = match scStep c p.2 with | some c' => formOf n c' l | none => (p.1 : Int) from rfl, h]
theorem formOf_none {n : Int} {c : Sc} {p : Nat × Int} {l : List (Nat × Int)} (h : scStep c p.2 = none) : formOf n c (p :: l) = p.1 := by
 rw [show formOf n c (p :: l) = match scStep c p.2 with | some c' => formOf n c' l | none => (p.1 : Int) from rfl, h]
structure GlAt (w : World) (lo b : Nat) (ao : Option Addr) (l : List (Nat × Int)) : Prop where
 isSome : l ≠ [] → ao = some ⟨b, 0, none⟩ ∧ lo ≤ b ∧ b < w.heap.size
 cells : ∀ i, (h : i < l.length) → w.cell? ⟨b, i * 3, none⟩ = some (.int .i64 l[i].2) ∧ w.cell? ⟨b, i * 3 + 1, none⟩ = some (.int .i64 l[i].1)
theorem GlAt.kept {w w' : World} {lo b : Nat} {ao : Option Addr} {l : List (Nat × Int)} {S : Nat → Prop} (h : GlAt w lo b ao l) (k : Kept S w w') (hs : l ≠ [] → ¬ S b) : GlAt w' lo b ao l := by
 by_cases hl : l = []
 ·subst hl; exact ⟨fun h => absurd rfl h, fun i h => by simp at h⟩
 ·obtain ⟨h1, h2, h3⟩ := h.isSome hl
  have hns := hs hl
  exact ⟨fun _ => ⟨h1, h2, Nat.lt_of_lt_of_le h3 k.size⟩, fun i hi => ⟨(k.cell (p := ⟨b, i * 3, none⟩) h3 hns).trans (h.cells i hi).1, (k.cell (p := ⟨b, i * 3 + 1, none⟩) h3 hns).trans (h.cells i hi).2⟩⟩
theorem GlAt.of {w : World} {lo : Nat} {v : Value} {s : ByteArray} {l : List (Nat × Int)} (h : w.ownsRow lo 115 3 v l.length (flat3 (l.map (tri s)))) : ∃ b ao cap, v = .slice ao l.length cap ∧ GlAt w lo b ao l := by
 rcases h.2 with ⟨rfl, h0⟩ | ⟨g, cap, cur, rfl, a1, a2, a3, a4, a5, a6⟩
 ·have e : l = [] := List.length_eq_zero_iff.1 h0
  subst e
  exact ⟨0, none, 0, rfl, fun h => absurd rfl h, fun i h => by simp at h⟩
 ·refine ⟨g, _, cap, rfl, fun _ => ⟨rfl, a1, (Array.getElem?_eq_some_iff.1 a2).1⟩, fun i hi => ?_⟩
  have hf := flat3_get (l.map (tri s)) i (by simpa using hi)
  have hcell : ∀ j x, j < l.length * 3 → (flat3 (l.map (tri s)))[j]? = some x → w.cell? ⟨g, j, none⟩ = some x := by
   intro j x hj hx
   rw [← a6, List.getElem?_take_of_lt hj] at hx
   simp only [World.cell?, a2]
   simpa using hx
  have e : (l.map (tri s))[i]'(by simpa using hi) = tri s l[i] := by simp
  rw [e] at hf
  exact ⟨hcell _ _ (by omega) hf.1, hcell _ _ (by omega) hf.2.1⟩
set_option maxHeartbeats 4000000 in
theorem form_any (s : ByteArray) (w : World) (hs : s.size ≤ 300) (hlen : (scan s).length ≤ s.size) :
  Calls Tryz.prog 19 #[.string s] w fun e w' => e = .returned (.int .i64 (formOf s.size sc0 (scan s))) ∧ Kept Nil w w' := by
 go_enter Tryz.func19, Tryz.ntmps19
 go_wp2_with fail
 refine (runes_any s w (by omega)).mono ?_
 rintro e w1 ⟨v, rfl, hown, hk1⟩
 obtain ⟨b, ao, cap, hv, hG⟩ := GlAt.of hown
 rw [hv]
 clear hown hv
 generalize hsc : scan s = l at *
 have HSC : Hid (scan s = l) := hsc
 clear hsc
 go_wp2_with fail
 have hG1 := hG.kept ((Kept.refl Nil w1).alloc (.cells #[.string ⟨#[98, 101, 103, 105, 110]⟩, .int .i64 0, .int .i64 0, .bool false] 120)) (fun _ hi => hi.elim)
 have hS0 : ScAt (w1.alloc (.cells #[.string ⟨#[98, 101, 103, 105, 110]⟩, .int .i64 0, .int .i64 0, .bool false] 120)) w1.heap.size sc0 := Blk.new _ _ _
 have hk2 : Kept Nil w (w1.alloc (.cells #[.string ⟨#[98, 101, 103, 105, 110]⟩, .int .i64 0, .int .i64 0, .bool false] 120)) := hk1.alloc _
 have hbs : w.heap.size ≤ w1.heap.size := hk1.size
 have hbl : l ≠ [] → b < w1.heap.size := fun h => (hG.isSome h).2.2
 go_loopg [5] l.length (fun kk i wr => ∃ (j : Nat) (c : Sc), i = .int .i64 j ∧ j ≤ l.length ∧ kk = l.length - j ∧ ScAt wr w1.heap.size c ∧ Hid (c.inv j) ∧ Hid (formOf s.size c (l.drop j) = formOf s.size sc0 l) ∧ GlAt wr w.heap.size b ao l ∧ Kept Nil w wr)
 case atStart => exact ⟨0, sc0, rfl, Nat.zero_le _, rfl, hS0, by refine ⟨?_, ?_, ?_, ?_, ?_⟩ <;> simp [sc0], rfl, hG1, hk2⟩
 case round =>
  obtain ⟨j, c, rfl, hj, rfl, hS, HI, HF, hGr, hk⟩ := hrel
  clear hG hG1 hS0 hk2 hk1
  by_cases hlt : j < l.length
  ·have hltI : (j : Int) < (l.length : Int) := by omega
   obtain ⟨rfl, b1, b2⟩ := hGr.isSome (by intro e; subst e; simp at hlt)
   have hbl' := hbl (by intro e; subst e; simp at hlt)
   have q0 := (hGr.cells j hlt).1
   have HD : Hid (l.drop j = l[j] :: l.drop (j + 1)) := List.drop_eq_getElem_cons hlt
   go_wp2_with fail
   refine (takes_any hS _ j (by omega) HI.out).mono ?_
   rintro e w2 ⟨he, hk2, hs2⟩
   rw [he]
   clear he
   have hG2 := hGr.kept hk2 (fun _ hi => by omega)
   have kw2 : Kept Nil w w2 := hk.trans' hk2 (fun i hi he => by omega)
   cases hst : scStep c l[j].2 with
   | none =>
    have q1 := (hG2.cells j hlt).2
    go_wp2_with fail
    go_ret
    refine ⟨?_, kw2⟩
    rw [HSC.out, ← HF.out, HD.out, formOf_none hst]; rfl
   | some c' =>
    have hS2 := hs2 c' hst
    go_wp2_with fail
    go_roundg (l.length - (j + 1))
    case measure => omega
    case rel =>
     refine ⟨j + 1, c', by go_num, by omega, rfl, hS2, ?_, ?_, hG2, kw2⟩
     ·have := scStep_inv hst HI.out
      show c'.inv _
      simpa using this
     ·show _ = _
      rw [← HF.out, HD.out, formOf_some hst]
  ·have ej : j = l.length := by omega
   subst ej
   have c0 : wr.cell? ⟨w1.heap.size, 0, none⟩ = some (.string c.m.str) := hS.cell 0
   have c1 : wr.cell? ⟨w1.heap.size, 1, none⟩ = some (.int .i64 c.o) := hS.cell 1
   have HV : Hid (formOf s.size sc0 l = if isDone c.m && c.o == 0 then -1 else (s.size : Int)) := by
    show _ = _
    rw [← HF.out, List.drop_length]; rfl
   cases hd : isDone c.m
   ·have HV2 : Hid (formOf s.size sc0 l = (s.size : Int)) := by show _ = _; rw [HV.out, hd]; rfl
    obtain ⟨m, o, n, z⟩ := c
    cases m <;> simp only [isDone] at hd <;> first | (cases hd; done) | skip
    all_goals
     simp only [M.str] at c0
     go_wp2_with fail
     go_ret
     exact ⟨by rw [HSC.out, HV2.out]; rfl, hk⟩
   ·obtain ⟨m, o, n, z⟩ := c
    cases ho : (o == 0)
    ·have ho' : (o != 0) = true := by simp at ho; simp [ho]
     have HV2 : Hid (formOf s.size sc0 l = (s.size : Int)) := by show _ = _; rw [HV.out, hd, ho]; rfl
     cases m <;> simp only [isDone] at hd <;> first | (cases hd; done) | skip
     all_goals
      simp only [M.str] at c0
      go_wp2_with fail
      go_ret
      exact ⟨by rw [HSC.out, HV2.out]; rfl, hk⟩
    ·have ho' : (o != 0) = false := by simp at ho; simp [ho]
     have HV2 : Hid (formOf s.size sc0 l = -1) := by show _ = _; rw [HV.out, hd, ho]; rfl
     cases m <;> simp only [isDone] at hd <;> first | (cases hd; done) | skip
     all_goals
      simp only [M.str] at c0
      go_wp2_with fail
      go_ret
      exact ⟨by rw [HSC.out, HV2.out]; rfl, hk⟩
structure TG where
 b : Nat
 bl : Nat
 ao : Option Addr
 cap : Nat
 l : List (Nat × Int)
def orNeg (o : Option Int) : Int := o.getD (-1)
def NRel (st : RS) (nl : List (List UInt8)) : Prop := nl.length = st.groups ∧ (∀ x, x ≠ [] → st.names.any (fun p => p.1 == x) = nl.any (fun y => y == x)) ∧ (∀ p, p ∈ st.names → p.1 ≠ []) ∧ (st.flt.nam = none → ∀ x i, x ≠ [] → ((x, i) ∈ st.names ↔ ∃ j, i = j + 1 ∧ nl[j]? = some x))
structure TrAt (w : World) (t : TG) (g : RG) (st : RS) (fold : Int) (vn : Value) (nl : List (List UInt8)) : Prop where
 blk : Blk w t.b #[.slice t.ao t.l.length t.cap, .int .i64 st.next, .int .i64 fold, vn, .int .i64 (orNeg st.flt.rep), .int .i64 (orNeg st.flt.cls), .int .i64 (orNeg st.flt.nam)] 72
 gl : GlAt w 0 t.bl t.ao t.l
 ne : t.l ≠ [] → t.bl ≠ t.b
 bl : t.l ≠ [] → t.bl < t.b
 rs : g.rs = t.l.map (·.2)
 ps : ∀ i, (h : i < t.l.length) → g.ps.getD i 0 = t.l[i].1
 len : t.l.length ≤ 300
 next : st.next ≤ t.l.length
 names : w.ownsRow (t.b + 1) 9 1 vn nl.length (nl.map fun x => .string ⟨x.toArray⟩)
 nrel : NRel st nl
 groups : st.groups ≤ st.next
 fold0 : 0 ≤ fold ∧ fold ≤ st.next
 pr : ∀ i, 0 ≤ g.ps.getD i 0 ∧ g.ps.getD i 0 ≤ 300
 fok : (∀ p, st.flt.rep = some p → 0 ≤ p) ∧ (∀ p, st.flt.cls = some p → 0 ≤ p) ∧ (∀ p, st.flt.nam = some p → 0 ≤ p)
theorem TrAt.lenr {w : World} {t : TG} {g : RG} {st : RS} {fold : Int} {vn : Value} {nl : List (List UInt8)} (h : TrAt w t g st fold vn nl) : g.rs.length = t.l.length := by rw [h.rs]; simp
theorem TrAt.see {w : World} {t : TG} {g : RG} {st : RS} {fold : Int} {vn : Value} {nl : List (List UInt8)} (h : TrAt w t g st fold vn nl) (hlt : st.next < t.l.length) : seeOf g st = t.l[st.next].2 := by
 unfold seeOf
 rw [h.rs]
 simp [List.getD, List.getElem?_eq_getElem hlt]
theorem TrAt.blt {w : World} {t : TG} {g : RG} {st : RS} {fold : Int} {vn : Value} {nl : List (List UInt8)} (h : TrAt w t g st fold vn nl) : t.b < w.heap.size := h.blk.lt
def TG.use (t : TG) (vn : Value) : Nat → Prop := fun k => k = t.b ∨ (t.l ≠ [] ∧ k = t.bl) ∨ vn.ownBlock = some k
theorem TrAt.kept {w w' : World} {t : TG} {g : RG} {st : RS} {fold : Int} {vn : Value} {nl : List (List UInt8)} {S : Nat → Prop} (h : TrAt w t g st fold vn nl) (k : Kept S w w') (hs : ∀ i, t.use vn i → ¬ S i) : TrAt w' t g st fold vn nl :=
 { h with
  blk := h.blk.kept k (hs _ (Or.inl rfl))
  gl := h.gl.kept k (fun hl => hs _ (Or.inr (Or.inl ⟨hl, rfl⟩)))
  names := ownsRow_kept h.names k (fun b hb => hs _ (Or.inr (Or.inr hb))) }
theorem TrAt.nil {w w' : World} {t : TG} {g : RG} {st : RS} {fold : Int} {vn : Value} {nl : List (List UInt8)} (h : TrAt w t g st fold vn nl) (k : Kept Nil w w') : TrAt w' t g st fold vn nl := h.kept k (fun _ _ hx => hx)
theorem TrAt.setNext {w : World} {t : TG} {g : RG} {st : RS} {fold : Int} {vn : Value} {nl : List (List UInt8)} (h : TrAt w t g st fold vn nl) (m : Nat) (hm : m ≤ t.l.length) (hg : st.next ≤ m) : TrAt (w.setCell ⟨t.b, 1, none⟩ (.int .i64 m)) t g { st with next := m } fold vn nl := by
 have k : Kept (fun i => i = t.b) w (w.setCell ⟨t.b, 1, none⟩ (.int .i64 m)) := (Kept.refl (fun i => i = t.b) w).setCell (p := ⟨t.b, 1, none⟩) (Or.inl rfl) _
 exact { h with
  blk := h.blk.setCell 1 _
  gl := h.gl.kept k (fun hl => h.ne hl)
  names := ownsRow_kept h.names k (fun b hb he => by have := (ownsRow_block h.names hb).1; omega)
  next := hm
  nrel := h.nrel
  groups := by have := h.groups; simp; omega
  fold0 := by have := h.fold0; simp; omega
  fok := h.fok }
theorem own1 {w : World} {t : TG} (i : Nat) (v : Value) : Kept (fun j => j = t.b) w (w.setCell ⟨t.b, i, none⟩ v) := (Kept.refl (fun j => j = t.b) w).setCell (p := ⟨t.b, i, none⟩) (Or.inl rfl) v
theorem at_tr {w : World} {t : TG} {g : RG} {st : RS} {fold : Int} {vn : Value} {nl : List (List UInt8)} (h : TrAt w t g st fold vn nl) :
  Calls Tryz.prog 46 #[.pointer (some ⟨t.b, 0, none⟩)] w fun e w' => e = .returned (.int .i64 (seeOf g st)) ∧ Kept Nil w w' := by
 have c0 : w.cell? ⟨t.b, 0, none⟩ = some (.slice t.ao t.l.length t.cap) := h.blk.cell 0
 have c1 : w.cell? ⟨t.b, 1, none⟩ = some (.int .i64 st.next) := h.blk.cell 1
 have hl := h.len
 have hlr := h.lenr
 by_cases hlt : st.next < t.l.length
 ·have hI : (st.next : Int) < (t.l.length : Int) := by omega
  obtain ⟨hao, _, _⟩ := h.gl.isSome (by intro e; rw [e] at hlt; simp at hlt)
  rw [hao] at c0
  have q0 := (h.gl.cells st.next hlt).1
  rw [← h.see hlt] at q0
  clear h hao
  go_enter Tryz.func46, Tryz.ntmps46
  go_wp2
  go_region
  all_goals go_wp2
  all_goals go_region
  all_goals go_wp2
  all_goals go_ret
  all_goals exact ⟨rfl, (Kept.refl _ _).drew.drew⟩
 ·have hI : ¬ (st.next : Int) < (t.l.length : Int) := by omega
  have hs : seeOf g st = -1 := seeOf_end (by omega)
  rw [hs]
  clear h hs
  go_enter Tryz.func46, Tryz.ntmps46
  go_wp2
  go_region
  all_goals go_wp2
  all_goals go_ret
  all_goals exact ⟨rfl, (Kept.refl _ _).drew⟩
theorem behind_tr {w : World} {t : TG} {g : RG} {st : RS} {fold : Int} {vn : Value} {nl : List (List UInt8)} (h : TrAt w t g st fold vn nl) :
  Calls Tryz.prog 102 #[.pointer (some ⟨t.b, 0, none⟩)] w fun e w' => e = .returned (.int .i64 (seeOf g { st with next := st.next + 1 })) ∧ Kept Nil w w' := by
 have c0 : w.cell? ⟨t.b, 0, none⟩ = some (.slice t.ao t.l.length t.cap) := h.blk.cell 0
 have c1 : w.cell? ⟨t.b, 1, none⟩ = some (.int .i64 st.next) := h.blk.cell 1
 have hl := h.len
 have hlr := h.lenr
 have hnx := h.next
 by_cases hlt : st.next + 1 < t.l.length
 ·have hI : (st.next : Int) + 1 < (t.l.length : Int) := by omega
  obtain ⟨hao, _, _⟩ := h.gl.isSome (by intro e; rw [e] at hlt; simp at hlt)
  rw [hao] at c0
  have q0 := (h.gl.cells (st.next + 1) hlt).1
  have hs : seeOf g { st with next := st.next + 1 } = t.l[st.next + 1].2 := by
   unfold seeOf
   rw [h.rs]
   simp [List.getD, List.getElem?_eq_getElem hlt]
  rw [← hs] at q0
  clear h hao hs
  go_enter Tryz.func102, Tryz.ntmps102
  go_wp2
  go_region
  all_goals go_wp2
  all_goals go_region
  all_goals go_wp2
  all_goals go_ret
  all_goals exact ⟨rfl, (Kept.refl _ _).drew.drew⟩
 ·have hI : ¬ (st.next : Int) + 1 < (t.l.length : Int) := by omega
  have hs : seeOf g { st with next := st.next + 1 } = -1 := seeOf_end (by simp; omega)
  rw [hs]
  clear h hs
  go_enter Tryz.func102, Tryz.ntmps102
  go_wp2
  go_region
  all_goals go_wp2
  all_goals go_ret
  all_goals exact ⟨rfl, (Kept.refl _ _).drew⟩
theorem refuse_form (g : RG) (st : RS) : (refuseOf g st).flt.form ≠ none := by
 unfold refuseOf RS.note Flt.note
 cases h : st.flt.form with
 | none => simp [Flt.get, h, Flt.put]
 | some p => simp [Flt.get, h]
theorem needSt_form {g : RG} {l : List UInt8} {st : RS} (h : (needSt g l st).flt.form = none) : inSet l (seeOf g st) = true ∧ st.flt.form = none ∧ needSt g l st = { st with next := st.next + 1 } := by
 unfold needSt at h ⊢
 cases hc : inSet l (seeOf g st)
 ·rw [hc] at h; exact absurd h (refuse_form g st)
 ·rw [hc] at h; exact ⟨rfl, h, rfl⟩
theorem needOtherSt_form {g : RG} {l : List UInt8} {st : RS} (h : (needOtherSt g l st).flt.form = none) : seeOf g st ≠ -1 ∧ inSet l (seeOf g st) = false ∧ st.flt.form = none ∧ needOtherSt g l st = { st with next := st.next + 1 } := by
 unfold needOtherSt at h ⊢
 by_cases hc : seeOf g st = -1 ∨ inSet l (seeOf g st) = true
 ·rw [if_pos hc] at h; exact absurd h (refuse_form g st)
 ·rw [if_neg hc] at h ⊢
  rw [not_or] at hc
  exact ⟨hc.1, by simpa using hc.2, h, rfl⟩
theorem note_form {st : RS} {e p : Int} (he : e ≠ 3) : (st.note e p).flt.form = st.flt.form := by
 unfold RS.note Flt.note
 simp only
 split
 ·rfl
 ·unfold Flt.put
  repeat' split
  all_goals first | rfl | (exfalso; omega)
theorem takeOf_form (g : RG) (l : List UInt8) (st : RS) : (takeOf g l st).flt = st.flt := by unfold takeOf; split <;> rfl
end Go.Proofs.YtfollffpibmgcaaGreatDoor
