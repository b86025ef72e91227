/- The reference: Runes, broken. -/
import Derived.Test.YtagehbmipookbaaGreatDoorGl3
import Derived.Deep.LoopGhost
import Derived.Maps.AppendAt
namespace Go.Proofs.YtagehbmipookbaaGreatDoor
open Go.RowKit
set_option linter.unusedVariables false
set_option maxRecDepth 100000

theorem decode_le4 (s : ByteArray) (i : Nat) : (Utf8.decode s i).2 ≤ 4 := by
  rw [decode_eq]
  unfold decN
  repeat' split
  all_goals first | (simp; done) | (simp only; split <;> simp)

abbrev Tri := Value × Value × Value
def flat3 : List Tri → List Value
  | [] => []
  | q :: qs => q.1 :: q.2.1 :: q.2.2 :: flat3 qs
theorem flat3_append (a b : List Tri) : flat3 (a ++ b) = flat3 a ++ flat3 b := by
  induction a with
  | nil => rfl
  | cons q qs ih => simp [flat3, ih]
theorem flat3_length (a : List Tri) : (flat3 a).length = a.length * 3 := by
  induction a with
  | nil => rfl
  | cons q qs ih => simp [flat3, ih]; omega
theorem flat3_get (qs : List Tri) (i : Nat) (h : i < qs.length) : (flat3 qs)[i * 3]? = some qs[i].1 ∧ (flat3 qs)[i * 3 + 1]? = some qs[i].2.1 ∧ (flat3 qs)[i * 3 + 2]? = some qs[i].2.2 := by
  induction qs generalizing i with
  | nil => simp at h
  | cons q qs ih =>
    cases i with
    | zero => simp [flat3]
    | succ i =>
      have hi : i < qs.length := by simpa using h
      have := ih i hi
      simp only [flat3, List.getElem_cons_succ]
      rw [show (i + 1) * 3 = i * 3 + 1 + 1 + 1 by omega, show i * 3 + 1 + 1 + 1 + 1 = (i * 3 + 1) + 1 + 1 + 1 by omega, show i * 3 + 1 + 1 + 1 + 2 = (i * 3 + 2) + 1 + 1 + 1 by omega]
      simpa using this

/-- a rune, its place, how many bytes it has -/
def tri (s : ByteArray) (p : Nat × Int) : Tri := (.int .i64 p.2, .int .i64 p.1, .int .i64 (Utf8.decode s p.1).2)
def scan (s : ByteArray) : List (Nat × Int) := scanFrom s (s.size + 1) 0

theorem Tryz.infoGlyph : (Tryz.prog.info? 66).map (fun i => (i.zero, i.size, i.bytes)) = some (some (.agg #[.int .i64 0, .int .i64 0, .int .i64 0]), 3, 24) := by kernel_rfl

theorem tri_news {w : World} (q : Tri) (j : Nat) (u : Value) (h : [q.1, q.2.1, q.2.2][j]? = some u) : (w.alloc (.cells #[q.1, q.2.1, q.2.2] 66)).cell? (Addr.add ⟨w.heap.size, 0, none⟩ j) = some u := by
  have hb := Blk.new w #[q.1, q.2.1, q.2.2] 66
  match j, h with
  | 0, h => simp at h; subst h; exact hb.cell 0
  | 1, h => simp at h; subst h; exact hb.cell 1
  | 2, h => simp at h; subst h; exact hb.cell 2
  | j + 3, h => simp at h

theorem scanFrom_step (s : ByteArray) (m pos : Nat) (hm : 0 < m) (h : pos < s.size) : scanFrom s m pos = (pos, ((Utf8.decode s pos).1 : Int)) :: scanFrom s (m - 1) (pos + (Utf8.decode s pos).2) := by
  obtain ⟨m', rfl⟩ : ∃ m', m = m' + 1 := ⟨m - 1, by omega⟩
  rw [show scanFrom s (m' + 1) pos = if pos < s.size then (pos, ((Utf8.decode s pos).1 : Int)) :: scanFrom s m' (pos + (Utf8.decode s pos).2) else [] from rfl, if_pos h]
  rfl

set_option maxHeartbeats 1000000 in
theorem runes_any (s : ByteArray) (w : World) (hs : s.size ≤ 1000) :
    Calls Tryz.prog 12 #[.string s, .bool false] w fun e w' => ∃ v, e = .returned v ∧ w'.ownsRow w.heap.size 66 3 v (scan s).length (flat3 ((scan s).map (tri s))) ∧ Kept Nil w w' := by
  obtain ⟨i0, hi0, hz0, hz1, hz2⟩ := info_parts Tryz.infoGlyph
  unfold scan
  go_enter Tryz.func12, Tryz.ntmps12
  go_wp2_with fail
  go_loopg [5, 6] s.size (fun kk v a wr => ∃ (pos m : Nat) (l : List (Nat × Int)) (qs : List Tri), a = .int .i64 pos ∧ wr.ownsRow w.heap.size 66 3 v qs.length (flat3 qs) ∧ Hid (qs = l.map (tri s)) ∧ Hid (l ++ scanFrom s m pos = scanFrom s (s.size + 1) 0) ∧ kk = s.size - pos ∧ kk < m ∧ qs.length ≤ pos ∧ qs.length ≤ s.size ∧ pos ≤ s.size + 4 ∧ Kept Nil w wr)
  case atStart => exact ⟨0, s.size + 1, [], [], rfl, World.ownsRow_nil _ _ _ _, rfl, rfl, rfl, by omega, by simp, by simp, by omega, Kept.refl _ _⟩
  case round =>
    obtain ⟨pos, m, l, qs, rfl, hown, HQ, HL, rfl, hm, hql, hqs, hp4, hk⟩ := hrel
    have hksz := hk.size
    by_cases hlt : pos < s.size
    · have hltI : (pos : Int) < (s.size : Int) := by omega
      have hd1 := decode_pos s pos hlt
      have hd4 := decode_le4 s pos
      have HST : Hid (scanFrom s m pos = (pos, ((Utf8.decode s pos).1 : Int)) :: scanFrom s (m - 1) (pos + (Utf8.decode s pos).2)) := scanFrom_step s m pos (by omega) hlt
      go_wp2_with fail
      refine (glyph_any s pos _ hlt hs).mono ?_
      rintro e w2 ⟨rfl, hk2⟩
      have HT : Hid (tri s (pos, ((Utf8.decode s pos).1 : Int)) = (.int .i64 (Utf8.decode s pos).1, .int .i64 pos, .int .i64 (Utf8.decode s pos).2)) := rfl
      generalize (Utf8.decode s pos).1 = c at HST HT ⊢
      generalize (Utf8.decode s pos).2 = wd at hd1 hd4 HST HT ⊢
      have own2 := ownsRow_kept hown hk2 (fun _ _ hx => hx)
      have s2 := hk2.size
      go_wp2_with (at_builtin; refine wpList_append_own_at _ rfl _ _ 47 rfl w.heap.size 66 i0 _ 3 24 Tryz.underlying47 hi0 hz0 hz1 hz2 rfl (by decide) _ _ _ rfl ((own2.alloc _).alloc _) ⟨w2.heap.size + 1, 0, none⟩ 1 1 [.int .i64 (c : Int), .int .i64 (pos : Int), .int .i64 (wd : Int)] rfl rfl ?c1 ?c2 ?c3 ?c4 ?c5 ?_)
      case c1 =>
        have := @tri_news (w2.alloc (.cells #[.int .i64 (c : Int), .int .i64 (pos : Int), .int .i64 (wd : Int)] 66)) (.int .i64 (c : Int), .int .i64 (pos : Int), .int .i64 (wd : Int))
        rw [size_alloc1] at this
        exact this
      case c2 => intro u hu; simp at hu; rcases hu with rfl | rfl | rfl <;> rfl
      case c3 => unfold maxLen; omega
      case c4 => omega
      case c5 => simp; omega
      intro v' w7 hown' hgrow hnil hloc
      have b7 : Blk w7 w2.heap.size #[.int .i64 (c : Int), .int .i64 (pos : Int), .int .i64 (wd : Int)] 66 := by
        have b2 := (Blk.new w2 #[.int .i64 (c : Int), .int .i64 (pos : Int), .int .i64 (wd : Int)] 66).alloc (.cells #[.int .i64 (c : Int), .int .i64 (pos : Int), .int .i64 (wd : Int)] 66)
        exact b2.kept ((Kept.refl (fun i => u5.ownBlock = some i) _).grown hgrow (fun j hj => Or.inl hj)) (fun hx => by have := (ownsRow_block own2 hx).2; omega)
      have k7 : Kept Nil w w7 := (((hk.trans hk2).alloc _).alloc _).grown hgrow (fun j hj => Or.inr (ownsRow_block own2 hj).1)
      have hown7 : w7.ownsRow w.heap.size 66 3 v' (qs ++ [((Value.int .i64 (c : Int), Value.int .i64 (pos : Int), Value.int .i64 (wd : Int)) : Tri)]).length (flat3 (qs ++ [((Value.int .i64 (c : Int), Value.int .i64 (pos : Int), Value.int .i64 (wd : Int)) : Tri)])) := by
        rw [flat3_append]; simpa [flat3] using hown'
      clear hown' hgrow hnil hloc hown own2 hk hk2
      have d2 : w7.cell? ⟨w2.heap.size, 2, none⟩ = some (.int .i64 (wd : Int)) := b7.cell 2
      go_wp2_with fail
      go_roundg (s.size - (pos + wd))
      case measure => omega
      case rel =>
        refine ⟨pos + wd, m - 1, l ++ [(pos, (c : Int))], _, by go_num, hown7, ?_, ?_, rfl, by omega, by simp; omega, by simp; omega, by omega, k7⟩
        · show _ = _
          rw [List.map_append, List.map_cons, List.map_nil, HT.out, HQ.out]
        · show _ = _
          rw [← HL.out, HST.out]; simp
    · have HLL : Hid (l = scanFrom s (s.size + 1) 0) := by
        show _ = _
        have := HL.out
        rw [scanFrom_end s m pos hlt, List.append_nil] at this
        exact this
      obtain ⟨ao, cc, hv⟩ := ownsRow_slice hown
      rw [hv] at hown ⊢
      go_wp2_with fail
      go_ret
      refine ⟨_, rfl, ?_, hk⟩
      rw [← HLL.out, ← HQ.out]
      have : l.length = qs.length := by rw [HQ.out]; simp
      rw [this]
      exact hown

def brokenOf (s : ByteArray) : Int :=
  match (scan s).find? (fun p => !okAt s p.1) with
  | some p => p.1
  | none => -1

theorem brokenOf_hit {s : ByteArray} {l r : List (Nat × Int)} {p : Nat × Int} (hl : ∀ p ∈ l, (!okAt s p.1) = false) (h : l ++ p :: r = scan s) (hp : okAt s p.1 = false) : brokenOf s = p.1 := by
  unfold brokenOf
  rw [← h, List.find?_append, List.find?_eq_none.2 (fun p hp => by simpa using hl p hp)]
  simp [hp]
theorem brokenOf_none {s : ByteArray} {l : List (Nat × Int)} (hl : ∀ p ∈ l, (!okAt s p.1) = false) (h : l = scan s) : brokenOf s = -1 := by
  unfold brokenOf
  rw [← h, List.find?_eq_none.2 (fun p hp => by simpa using hl p hp)]

theorem broken_any (s : ByteArray) (w : World) (hs : s.size ≤ 1000) :
    Calls Tryz.prog 10 #[.string s] w fun e w' => e = .returned (.int .i64 (brokenOf s)) ∧ Kept Nil w w' := by
  go_enter Tryz.func10, Tryz.ntmps10
  go_wp2_with fail
  go_loopg [3] s.size (fun kk a wr => ∃ (pos m : Nat) (l : List (Nat × Int)), a = .int .i64 pos ∧ Hid (∀ p ∈ l, (!okAt s p.1) = false) ∧ Hid (l ++ scanFrom s m pos = scanFrom s (s.size + 1) 0) ∧ kk = s.size - pos ∧ kk < m ∧ pos ≤ s.size + 4 ∧ Kept Nil w wr)
  case atStart => exact ⟨0, s.size + 1, [], rfl, fun p hp => by simp at hp, rfl, rfl, by omega, by omega, Kept.refl _ _⟩
  case round =>
    obtain ⟨pos, m, l, rfl, HO, HL, rfl, hm, hp4, hk⟩ := hrel
    by_cases hlt : pos < s.size
    · have hltI : (pos : Int) < (s.size : Int) := by omega
      have hd1 := decode_pos s pos hlt
      have hd4 := decode_le4 s pos
      have HST : Hid (scanFrom s m pos = (pos, ((Utf8.decode s pos).1 : Int)) :: scanFrom s (m - 1) (pos + (Utf8.decode s pos).2)) := scanFrom_step s m pos (by omega) hlt
      cases hok : okAt s pos
      · go_wp2_with fail
        refine (glyph_any s pos _ hlt hs).mono ?_
        rintro e w2 ⟨rfl, hk2⟩
        rw [hok]
        generalize (Utf8.decode s pos).1 = c at HST ⊢
        generalize (Utf8.decode s pos).2 = wd at hd1 hd4 HST ⊢
        go_wp2_with fail
        go_ret
        refine ⟨?_, (hk.trans hk2).alloc _⟩
        have := brokenOf_hit (p := (pos, (c : Int))) (r := scanFrom s (m - 1) (pos + wd)) HO.out (HST.out ▸ HL.out) hok
        rw [this]; rfl
      · go_wp2_with fail
        refine (glyph_any s pos _ hlt hs).mono ?_
        rintro e w2 ⟨rfl, hk2⟩
        rw [hok]
        generalize (Utf8.decode s pos).1 = c at HST ⊢
        generalize (Utf8.decode s pos).2 = wd at hd1 hd4 HST ⊢
        go_wp2_with fail
        go_roundg (s.size - (pos + wd))
        case measure => omega
        case rel =>
          refine ⟨pos + wd, m - 1, l ++ [(pos, (c : Int))], by go_num, ?_, ?_, rfl, by omega, by omega, (hk.trans hk2).alloc _⟩
          · intro p hp
            rcases List.mem_append.1 hp with hp | hp
            · exact HO.out p hp
            · simp at hp; subst hp; simp [hok]
          · show _ = _
            rw [← HL.out, HST.out]; simp
    · go_wp2_with fail
      go_ret
      refine ⟨?_, hk⟩
      have := brokenOf_none HO.out (by have := HL.out; rw [scanFrom_end s m pos hlt, List.append_nil] at this; exact this)
      rw [this]; rfl
end Go.Proofs.YtagehbmipookbaaGreatDoor
