/- Package whole's reckon: of a place it reckons which states come off there, out of those of the next place. -/
import Derived.Test.YtnbfddjaonlmaaaGreatDoorP30
import Derived.Test.YtnbfddjaonlmaaaGreatDoorP31
namespace Go.Proofs.YtnbfddjaonlmaaaGreatDoor
open Go.RowKit Go.Maps
set_option linter.unusedVariables false
set_option maxRecDepth 100000

/-- the outlook in memory -/
def outV (sv : Value) (st G : Int) (s : ByteArray) (bv fv : Value) (blk : Int) (rv : Value) : Array Value := #[sv, .int .i64 st, .int .i64 G, .string s, .int .i64 0, .int .i32 (-1), .int .i32 (-1), .bool false, bv, fv, .int .i64 blk, rv]
theorem u64_cell {ws : List Nat} {k : Nat} (h : k < ws.length) : (u64L ws).toArray[k]? = some (.int .u64 (ws.getD k 0 : Nat)) := by
  unfold u64L
  simp [List.getD_eq_getElem?_getD, List.getElem?_eq_getElem h]
theorem u64_set (ws : List Nat) (k x : Nat) : (u64L ws).toArray.setIfInBounds k (.int .u64 (x : Int)) = (u64L (ws.set k x)).toArray := by
  unfold u64L
  simp [List.map_set]
/-- has, of a row of words -/
theorem has_row {w : World} {B o L c : Nat} {ws cur : List Nat} (h : Blk w B (u64L (splice ws o cur)).toArray 132) (hL : cur.length = L) (hw : W64 cur) (ho : o + L ≤ ws.length) {u : Nat} (hu : u / 64 < L) (hu2 : u < 100000) :
    Calls Tryz.prog 60 #[.slice (some ⟨B, o, none⟩) L c, .int .i64 (u : Int)] w fun e w' => e = .returned (.bool (bitAt cur 0 u)) ∧ w' = w := by
  subst hL
  have hc := h.cell (o + u / 64)
  rw [u64_cell (by rw [length_splice _ _ _ ho]; omega), splice_getD _ _ _ ho, if_pos (by omega), show o + u / 64 - o = 0 + u / 64 by omega] at hc
  exact has_rd w B o cur.length c _ u (hw.getD _) hu hu2 hc
theorem has_row2 {w : World} {B o L c : Nat} {nx : List Nat} (hw : W64 nx) {u : Nat} (hc : w.cell? ⟨B, o + u / 64, none⟩ = some (.int .u64 (nx.getD (u / 64) 0 : Nat))) (hu : u / 64 < L) (hu2 : u < 100000) :
    Calls Tryz.prog 60 #[.slice (some ⟨B, o, none⟩) L c, .int .i64 (u : Int)] w fun e w' => e = .returned (.bool (bitAt nx 0 u)) ∧ w' = w := by
  have := has_rd w B o L c _ u (hw.getD _) hu hu2 hc
  unfold bitAt
  rw [Nat.zero_add]
  exact this
theorem put_row {w : World} {B o L c : Nat} {ws cur : List Nat} (h : Blk w B (u64L (splice ws o cur)).toArray 132) (hL : cur.length = L) (hw : W64 cur) (ho : o + L ≤ ws.length) {u : Nat} (hu : u / 64 < L) (hu2 : u < 100000) :
    Calls Tryz.prog 74 #[.slice (some ⟨B, o, none⟩) L c, .int .i64 (u : Int)] w fun e w' => e = .returned (.tuple #[]) ∧ Blk w' B (u64L (splice ws o (putAt cur 0 u))).toArray 132 ∧ Kept (fun i => i = B) w w' := by
  subst hL
  have hlt : o + u / 64 < (splice ws o cur).length := by rw [length_splice _ _ _ ho]; omega
  have hc := h.cell (o + u / 64)
  rw [u64_cell hlt] at hc
  have hx : (splice ws o cur).getD (o + u / 64) 0 < 18446744073709551616 := by
    rw [splice_getD _ _ _ ho, if_pos (by omega)]; exact hw.getD _
  refine (put_rd w B o cur.length c _ u hx hu hu2 hc (h.frozen _)).mono ?_
  rintro e w' ⟨h1, rfl⟩
  refine ⟨h1, ?_, (Kept.drew (Kept.refl (fun i => i = B) w)).setCell (p := ⟨B, o + u / 64, none⟩) (Or.inl rfl) _⟩
  have hb : Blk w.drew B (u64L (splice ws o cur)).toArray 132 := h
  have := hb.setCell (o + u / 64) (.int .u64 (((splice ws o cur).getD (o + u / 64) 0 ||| 2 ^ (u % 64) : Nat) : Int))
  rw [u64_set] at this
  rw [← putAt_splice ho hu]
  exact this

/-! ## the runes around a boundary -/
def aheadOf (s : ByteArray) (i : Nat) : Int := if i = 0 then -1 else (txOf s).rune (i - 1)
theorem rune_end {s : ByteArray} {i : Nat} (h : (runesOf s).length ≤ i) : (txOf s).rune i = -1 := by
  unfold TX.rune txOf
  simp [List.getElem?_eq_none h]
theorem decode_rune (s : ByteArray) (p : Nat) (h : p < s.size) : (Utf8.decode s p).1 ≤ 1114111 := Lib.rune_le s p
theorem rune_range {s : ByteArray} {i : Nat} (h : i < (runesOf s).length) : 0 ≤ (txOf s).rune i ∧ (txOf s).rune i ≤ 1114111 := by
  rw [rune_bd h]
  have := decode_rune s (bd s i) (bd_size h)
  omega
theorem around_bd (w : World) (s : ByteArray) (i : Nat) (hi : i ≤ (runesOf s).length) (hs : s.size ≤ 1000000000) (hT : Tabs w) : Calls Tryz.prog 71 #[.agg #[.string s, .int .i64 0, .int .i32 (-1), .int .i32 (-1), .bool false], .int .i64 (bd s i : Int)] w fun e w' =>
    e = .returned (.tuple #[.int .i32 (aheadOf s i), .int .i32 ((txOf s).rune i)]) ∧ Kept Nil w w' := by
  refine (around_rd w s (bd s i) 0 (-1) (-1) (bd_le s i) hs hT).mono ?_
  rintro e w' ⟨rfl, hk⟩
  refine ⟨?_, hk⟩
  have e1 : (if 0 < bd s i then ((Lib.decodeLastL (s.extract 0 (bd s i)).data.toList).1 : Int) else -1) = aheadOf s i := by
    unfold aheadOf
    by_cases h0 : i = 0
    · subst h0; rw [bd_zero, if_neg (by omega), if_pos rfl]
    · obtain ⟨j, rfl⟩ : ∃ j, i = j + 1 := ⟨i - 1, by omega⟩
      have hj : j < (runesOf s).length := by omega
      have := (bd_step hj).1
      rw [if_pos (by omega), if_neg (by omega), last_bd hj, Nat.add_sub_cancel]
  have e2 : (if bd s i < s.size then ((Lib.decodeGo (s.extract (bd s i) s.size)).1 : Int) else -1) = (txOf s).rune i := by
    by_cases hlt : i < (runesOf s).length
    · have := bd_size hlt
      rw [if_pos this, decodeGo_at s _ this, rune_bd hlt]
    · have hb := bd_end (s := s) (i := i) (by omega)
      rw [if_neg (by omega), rune_end (by omega)]
  rw [e1, e2]
theorem word_is (c : Int) : wordR c = inSpans (letterSpans 119) c := by
  unfold wordR letterSpans
  rw [Bool.eq_iff_iff]
  simp [inSpans]
  omega
theorem holds_edge (s : ByteArray) (e : Int) {i : Nat} (hi : i ≤ (runesOf s).length) : holdsR e (aheadOf s i) ((txOf s).rune i) = edgeIs (txOf s) e i := by
  have hl : (txOf s).l.length = (runesOf s).length := rfl
  have w1 : wordR (aheadOf s i) = (txOf s).word ((i : Int) - 1) := by
    unfold aheadOf TX.word
    by_cases h0 : i = 0
    · subst h0; rw [if_pos rfl]; simp [wordR]
    · rw [if_neg h0, word_is, hl]
      have : decide (0 ≤ (i : Int) - 1) = true := by simp; omega
      have h2 : decide ((i : Int) - 1 < ((runesOf s).length : Int)) = true := by simp; omega
      rw [this, h2, show ((i : Int) - 1).toNat = i - 1 by omega]; simp
  have w2 : wordR ((txOf s).rune i) = (txOf s).word (i : Int) := by
    unfold TX.word
    rw [hl]
    by_cases hlt : i < (runesOf s).length
    · rw [word_is]; simp [hlt]
    · rw [rune_end (by omega)]
      have : decide ((i : Int) < ((runesOf s).length : Int)) = false := by simp; omega
      rw [this]; simp [wordR]
  unfold holdsR edgeIs
  by_cases e0 : e = 0
  · rw [if_pos e0, if_pos e0]
    unfold aheadOf
    by_cases h0 : i = 0
    · subst h0; simp
    · rw [if_neg h0]
      have := rune_range (s := s) (i := i - 1) (by omega)
      rw [Bool.eq_iff_iff]; simp; omega
  · rw [if_neg e0, if_neg e0]
    by_cases e1 : e = 1
    · rw [if_pos e1, if_pos e1, hl]
      by_cases hlt : i < (runesOf s).length
      · have := rune_range hlt
        rw [Bool.eq_iff_iff]; simp; omega
      · rw [rune_end (by omega)]
        rw [Bool.eq_iff_iff]; simp; omega
    · rw [if_neg e1, if_neg e1, w1, w2]
      by_cases e2 : e = 2
      · subst e2; simp
      · rw [if_neg e2]
        have : (e == 2) = false := by simpa using e2
        rw [this]
        simp

/-- what reckon reads, but for the rows -/
structure RkAt (w : World) (ob lo hi mb c : Nat) (vs : List Sv) (ms : List MS) (s : ByteArray) (st G : Int) (bv fv : Value) (blk : Int) (rv : Value) : Prop where
  out : Blk w ob (outV (.slice (some ⟨mb, 0, none⟩) ms.length c) st G s bv fv blk rv) 118
  sts : StsAt w mb vs ms
  svs : ∀ i, (h : i < vs.length) → (h' : i < ms.length) → SvAt w lo hi vs[i] ms[i]
  le : hi ≤ w.heap.size
  tabs : Tabs w
theorem RkAt.kept {w w' : World} {ob lo hi mb c : Nat} {vs : List Sv} {ms : List MS} {s : ByteArray} {st G : Int} {bv fv : Value} {blk : Int} {rv : Value} {K : Nat → Prop} (h : RkAt w ob lo hi mb c vs ms s st G bv fv blk rv) (k : Kept K w w') (h1 : ¬ K ob) (h2 : ¬ K mb) (h3 : ∀ i, lo ≤ i → i < hi → ¬ K i) (h4 : ¬ K 0) (h5 : ¬ K 1) : RkAt w' ob lo hi mb c vs ms s st G bv fv blk rv :=
  ⟨h.out.kept k h1, h.sts.kept k h2, fun i a b => (h.svs i a b).kept k h3 h.le, Nat.le_trans h.le k.size, h.tabs.kept k h4 h5⟩
/-- a block that reckon may write into -/
def Apt (ob lo hi mb B : Nat) : Prop := B ≠ ob ∧ B ≠ mb ∧ ¬ (lo ≤ B ∧ B < hi) ∧ B ≠ 0 ∧ B ≠ 1
theorem RkAt.row {w w' : World} {ob lo hi mb c B : Nat} {vs : List Sv} {ms : List MS} {s : ByteArray} {st G : Int} {bv fv : Value} {blk : Int} {rv : Value} (h : RkAt w ob lo hi mb c vs ms s st G bv fv blk rv) (k : Kept (fun i => i = B) w w') (ha : Apt ob lo hi mb B) : RkAt w' ob lo hi mb c vs ms s st G bv fv blk rv :=
  h.kept k (fun e => ha.1 e.symm) (fun e => ha.2.1 e.symm) (fun i h1 h2 e => ha.2.2.1 (by subst e; exact ⟨h1, h2⟩)) (fun e => ha.2.2.2.1 e.symm) (fun e => ha.2.2.2.2 e.symm)

/-- the next row, whatever it is -/
def NextAt (w : World) (B1 o1 B2 o2 L : Nat) (ws : List Nat) (Q : List Nat → Prop) : Prop :=
  ∀ W cur, Kept (fun i => i = B1) w W → cur.length = L → W64 cur → Blk W B1 (u64L (splice ws o1 cur)).toArray 132 → ∃ nx : List Nat, W64 nx ∧ (∀ k, k < L → W.cell? ⟨B2, o2 + k, none⟩ = some (.int .u64 (nx.getD k 0 : Nat))) ∧ Q nx
/-- between two rounds of reckon -/
def RkR (w wr : World) (B1 o1 L : Nat) (ws cur : List Nat) (k : Nat) (H : Prop) (f : Nat → Bool) : Prop :=
  cur.length = L ∧ W64 cur ∧ Blk wr B1 (u64L (splice ws o1 cur)).toArray 132 ∧ Kept (fun i => i = B1) w wr ∧ (H → ∀ u, u / 64 < L → bitAt cur 0 u = (decide (u < k) && f u))
theorem RkR.put {w wr w' : World} {B1 o1 L : Nat} {ws cur : List Nat} {k : Nat} {H : Prop} {f : Nat → Bool} (h : RkR w wr B1 o1 L ws cur k H f) (hk : k / 64 < L) (hb : Blk w' B1 (u64L (splice ws o1 (putAt cur 0 k))).toArray 132) (hw : Kept (fun i => i = B1) wr w') (hf : H → f k = true) : RkR w w' B1 o1 L ws (putAt cur 0 k) (k + 1) H f := by
  obtain ⟨h1, h2, h3, h4, h5⟩ := h
  refine ⟨by rw [putAt_length, h1], h2.put _ _, hb, h4.trans hw, fun hH u hu => ?_⟩
  rw [bitAt_put (by omega), h5 hH u hu]
  by_cases e : u = k
  · subst e
    simp [hf hH]
  · have e1 : decide (u < k + 1) = decide (u < k) := by rw [decide_eq_decide]; omega
    rw [e1]
    simp [e]
theorem RkR.skip {w wr w' : World} {B1 o1 L : Nat} {ws cur : List Nat} {k : Nat} {H : Prop} {f : Nat → Bool} (h : RkR w wr B1 o1 L ws cur k H f) (hw : Kept Nil wr w') (hf : H → f k = false) : RkR w w' B1 o1 L ws cur (k + 1) H f := by
  obtain ⟨h1, h2, h3, h4, h5⟩ := h
  refine ⟨h1, h2, h3.kept hw (fun h => h), h4.trans (hw.mono (fun _ h => h.elim)), fun hH u hu => ?_⟩
  rw [h5 hH u hu]
  by_cases e : u = k
  · subst e
    simp [hf hH]
  · have e1 : decide (u < k + 1) = decide (u < k) := by rw [decide_eq_decide]; omega
    rw [e1]
theorem RkR.later {w wr w' : World} {B1 o1 L : Nat} {ws cur : List Nat} {k : Nat} {H : Prop} {f : Nat → Bool} (h : RkR w wr B1 o1 L ws cur k H f) (hw : Kept Nil wr w') : RkR w w' B1 o1 L ws cur k H f := by
  obtain ⟨h1, h2, h3, h4, h5⟩ := h
  exact ⟨h1, h2, h3.kept hw (fun h => h), h4.trans (hw.mono (fun _ h => h.elim)), h5⟩

set_option maxHeartbeats 8000000 in
theorem reckon_rd {w : World} {ob lo hi mb c : Nat} {vs : List Sv} {ms : List MS} {s : ByteArray} {st G G2 : Int} {bv fv : Value} {blk : Int} {rv : Value} (hR : RkAt w ob lo hi mb c vs ms s st G bv fv blk rv) (hg : MGood ms) (hq : AllQ G2 ms) (hfew : ms.length ≤ 4001) (hs : s.size ≤ 1000000000)
    {i L : Nat} (hi' : i ≤ (runesOf s).length) (hL : L = ms.length / 64 + 1)
    {B1 o1 c1 : Nat} {ws : List Nat} (hB : Blk w B1 (u64L ws).toArray 132) (ho : o1 + L ≤ ws.length) (ha : Apt ob lo hi mb B1)
    {B2 o2 c2 : Nat} {H : Prop} (hnx : NextAt w B1 o1 B2 o2 L ws (fun nx => H → ∀ u : Nat, u < ms.length → bitAt nx 0 u = (decide (i < (runesOf s).length) && off ms (txOf s) u (i + 1)))) :
    Calls Tryz.prog 58 #[.pointer (some ⟨ob, 0, none⟩), .slice (some ⟨B1, o1, none⟩) L c1, .slice (some ⟨B2, o2, none⟩) L c2, .int .i64 (bd s i : Int)] w fun e w' => e = .returned (.tuple #[]) ∧ Kept (fun i => i = B1) w w' ∧ ∃ cur, cur.length = L ∧ W64 cur ∧ Blk w' B1 (u64L (splice ws o1 cur)).toArray 132 ∧ (H → ∀ u : Nat, u < ms.length → bitAt cur 0 u = off ms (txOf s) u i) := by
  have HR := hid hR
  have HNX := hid hnx
  have HG := hid hg
  have HQ := hid hq
  have HA := hid ha
  have HB := hid hB
  have HHO := hid ho
  have hLL : Hid (L = ms.length / 64 + 1) := hL
  have hLpos : L ≠ 0 := by omega
  have hbd : bd s i ≤ 1000000000 := by have := bd_le s i; omega
  have HAR := hid fun (W : World) (hT : Tabs W) => around_bd W s i hi' hs hT
  have HI := hid hi'
  clear hR hnx hg hq ha hB ho hL hi'
  go_enter Tryz.func58, Tryz.ntmps58
  go_wp2_with (refine wpList_clear_own rfl (.tmp 13) 121 rfl 132 Tryz.underlying121 ?z B1 o1 L c1 rfl hLpos ws 132 HB.out HHO.out ?_)
  case z => exact Tryz.zeroValue132 _
  intro w1 hb1 hk1
  have R1 := hid (HR.out.row hk1 HA.out)
  have q0 : w1.cell? ⟨ob, 3, none⟩ = some (.string s) := R1.out.out.cell 3
  have q1 : w1.cell? ⟨ob, 4, none⟩ = some (.int .i64 0) := R1.out.out.cell 4
  have q2 : w1.cell? ⟨ob, 5, none⟩ = some (.int .i32 (-1)) := R1.out.out.cell 5
  have q3 : w1.cell? ⟨ob, 6, none⟩ = some (.int .i32 (-1)) := R1.out.out.cell 6
  have q4 : w1.cell? ⟨ob, 7, none⟩ = some (.bool false) := R1.out.out.cell 7
  have HB1 := hid hb1
  have HK1 := hid hk1
  clear hb1 hk1
  go_wp2_with fail
  refine (HAR.out _ R1.out.tabs).mono ?_
  rintro e w2 ⟨rfl, hk2⟩
  have START : Hid (RkR w w2 B1 o1 L ws (List.replicate L 0) 0 H (fun u => off ms (txOf s) u i)) := ⟨by simp, W64.zeros L, HB1.out.kept hk2 (fun h => h), HK1.out.trans (hk2.mono (fun _ h => h.elim)), fun _ u _ => by rw [bitAt_zeros]; simp⟩
  have q5 : w2.cell? ⟨ob, 0, none⟩ = some (.slice (some ⟨mb, 0, none⟩) ms.length c) := (R1.out.out.kept hk2 (fun h => h)).cell 0
  clear HB1 HK1 hk2 q0 q1 q2 q3 q4 R1 HAR HB
  generalize hah : aheadOf s i = ah
  have HAH := hid hah
  clear hah
  go_wp2_with fail
  go_loopg [29] ms.length (fun kk v wr => ∃ (k : Nat) (cur : List Nat), v = .int .i64 (k : Int) ∧ k ≤ ms.length ∧ kk = ms.length - k ∧ Hid (RkR w wr B1 o1 L ws cur k H (fun u => off ms (txOf s) u i)))
  case atStart => exact ⟨0, _, rfl, Nat.zero_le _, rfl, START⟩
  case round =>
    obtain ⟨k, cur, rfl, hk, hkk, HC⟩ := hrel
    clear START q5
    by_cases hlt : k < ms.length
    · have hlt2 : (k : Int) < (ms.length : Int) := by omega
      have Rr := hid (HR.out.row HC.out.2.2.2.1 HA.out)
      have q5 : wr.cell? ⟨ob, 0, none⟩ = some (.slice (some ⟨mb, 0, none⟩) ms.length c) := Rr.out.out.cell 0
      obtain ⟨q, ⟨hqv, hqe⟩, hq3, hqc⟩ := Rr.out.sts.at hlt
      obtain ⟨d0, d1, d2, d3, d4, d5⟩ := hqc wr Rr.out.sts
      have hSV := Rr.out.svs k hqv hlt
      rw [hqe] at hSV
      have HO := hid (off_is HG.out (txOf s) HI.out (List.getElem?_eq_getElem hlt))
      have HM := hid (HG.out k _ (List.getElem?_eq_getElem hlt))
      have HMQ := hid (HQ.out _ (List.getElem_mem hlt))
      generalize hm : ms[k] = m at *
      have HSV := hid hSV
      have ek := hSV.k
      have eed := hSV.ed
      have enx := hSV.nx
      have eot := hSV.ot
      clear hm hqc hqe hqv hq3 hSV
      obtain ⟨qk, qsa, qsn, qsc, qed, qsl, qnx, qot⟩ := q
      simp only at d0 d1 d2 d3 d4 d5 ek eed enx eot
      subst ek eed enx eot
      have hkL : k / 64 < L := by have := hLL.out; omega
      have PUT := hid fun (W : World) (h : RkR w W B1 o1 L ws cur k H (fun u => off ms (txOf s) u i)) => put_row (c := c1) h.2.2.1 h.1 h.2.1 HHO.out hkL (by omega)
      have HAS : Hid (∀ (W : World) (u : Nat), RkR w W B1 o1 L ws cur k H (fun u => off ms (txOf s) u i) → u < ms.length → Calls Tryz.prog 60 #[.slice (some ⟨B1, o1, none⟩) L c1, .int .i64 (u : Int)] W fun e w' => e = .returned (.bool (bitAt cur 0 u)) ∧ w' = W) := fun W u h hu => has_row h.2.2.1 h.1 h.2.1 HHO.out (by have := hLL.out; omega) (by omega)
      have BIT : Hid (H → ∀ u : Nat, u < k → bitAt cur 0 u = off ms (txOf s) u i) := fun hH u hu => by
        rw [HC.out.2.2.2.2 hH u (by have := hLL.out; omega)]; simp [hu]
      have hk01 := HSV.out.kr
      by_cases e0 : m.kind = 0
      · rw [e0] at d0
        go_wp2_with fail
        refine (PUT.out _ HC.out).mono ?_
        rintro e w5 ⟨rfl, hb5, hk5⟩
        have FIN := hid (HC.out.put hkL hb5 hk5 (fun hH => HO.out.1 e0))
        clear hb5 hk5
        go_wp2_with fail
        go_roundg (ms.length - (k + 1))
        case measure => omega
        case rel => exact ⟨k + 1, _, by simp, by omega, rfl, FIN⟩
      · by_cases e1 : m.kind = 1
        · rw [e1] at d0
          obtain ⟨S, bs, rfl, a2, a3, a4, a5, a6⟩ := HSV.out.set e1
          have HT := hid (a4.takes (HMQ.out.1 e1))
          have hN := HM.out.2.1 e1
          obtain ⟨mn, hmn⟩ : ∃ mn : Nat, m.next = (mn : Int) := ⟨m.next.toNat, by omega⟩
          rw [hmn] at d4
          have hmnl : mn < ms.length := by omega
          have HOF : Hid (off ms (txOf s) k i = ((decide (i < (runesOf s).length) && takesC m.sp m.fo m.nt ((txOf s).rune i)) && off ms (txOf s) (mn : Int) (i + 1))) := by have := HO.out.2.1 e1; rw [hmn] at this; exact this
          have TK : Hid (i < (runesOf s).length → inSpans S ((txOf s).rune i) = takesC m.sp m.fo m.nt ((txOf s).rune i)) := fun h => by have := rune_range h; exact HT.out.2 _ this.1 this.2
          have F := Has_rd wr qsa qsc bs S ((txOf s).rune i) (fun hne => ⟨(a2 hne).1, by have := (a2 hne).2.2; have := Rr.out.le; omega⟩) a3 HT.out.1 a6
          clear a2 a3 a4 a5 hmn hN
          cases hin : inSpans S ((txOf s).rune i) with
          | false =>
            rw [hin] at F
            have F := hid F
            have NO : Hid (H → off ms (txOf s) k i = false) := fun hH => by
              rw [HOF.out]
              by_cases hl : i < (runesOf s).length
              · rw [← TK.out hl, hin]; simp
              · simp [hl]
            clear hin TK HOF
            go_wp2_with fail
            refine (F.out).mono ?_
            rintro e w3 ⟨rfl, hk3⟩
            have HC3 := hid (HC.out.later hk3)
            clear hk3
            go_wp2_with fail
            have FIN := hid (HC3.out.skip (Kept.refl _ _) (fun hH => NO.out hH))
            go_roundg (ms.length - (k + 1))
            case measure => omega
            case rel => exact ⟨k + 1, _, by simp, by omega, rfl, FIN⟩
          | true =>
            rw [hin] at F
            have F := hid F
            go_wp2_with fail
            refine (F.out).mono ?_
            rintro e w3 ⟨rfl, hk3⟩
            have HC3 := hid (HC.out.later hk3)
            have R3 := hid (Rr.out.kept hk3 (fun h => h) (fun h => h) (fun _ _ _ h => h) (fun h => h) (fun h => h))
            have g4 : w3.cell? ⟨mb, k * 6 + 4, none⟩ = some (.int .i64 (mn : Int)) := (hk3.cell (p := ⟨mb, k * 6 + 4, none⟩) Rr.out.sts.lt (fun h => h)).trans d4
            clear hk3 F
            obtain ⟨nx, hnw, hnc, hQ⟩ := HNX.out w3 cur HC3.out.2.2.2.1 HC3.out.1 HC3.out.2.1 HC3.out.2.2.1
            have HQ2 := hid fun hH => hQ hH mn hmnl
            have F2 := has_row2 (c := c2) (L := L) (u := mn) hnw (hnc (mn / 64) (by have := hLL.out; omega)) (by have := hLL.out; omega) (by omega)
            clear hnc hQ hnw
            cases hbit : bitAt nx 0 mn with
            | false =>
              rw [hbit] at F2
              have F2 := hid F2
              have NO : Hid (H → off ms (txOf s) k i = false) := fun hH => by
                rw [HOF.out]
                by_cases hl : i < (runesOf s).length
                · have := HQ2.out hH
                  rw [hbit] at this
                  have h2 : off ms (txOf s) (mn : Int) (i + 1) = false := by simpa [hl] using this.symm
                  rw [h2]; simp
                · simp [hl]
              clear hbit hin TK HOF HQ2
              go_wp2_with fail
              refine (F2.out).mono ?_
              rintro e w4 ⟨rfl, rfl⟩
              clear F2
              go_wp2_with fail
              have FIN := hid (HC3.out.skip (Kept.refl _ _) (fun hH => NO.out hH))
              go_roundg (ms.length - (k + 1))
              case measure => omega
              case rel => exact ⟨k + 1, _, by simp, by omega, rfl, FIN⟩
            | true =>
              rw [hbit] at F2
              have F2 := hid F2
              have YES : Hid (H → off ms (txOf s) k i = true) := fun hH => by
                rw [HOF.out]
                have := HQ2.out hH
                rw [hbit] at this
                have hl : i < (runesOf s).length := by
                  refine Decidable.by_contra fun hl => ?_
                  simp [hl] at this
                simp [hl] at this
                rw [← this, ← TK.out hl, hin]; simp [hl]
              clear hbit hin TK HOF HQ2
              go_wp2_with fail
              refine (F2.out).mono ?_
              rintro e w4 ⟨rfl, rfl⟩
              clear F2
              go_wp2_with fail
              refine (PUT.out _ HC3.out).mono ?_
              rintro e w5 ⟨rfl, hb5, hk5⟩
              have FIN := hid (HC3.out.put hkL hb5 hk5 (fun hH => YES.out hH))
              clear hb5 hk5
              go_wp2_with fail
              go_roundg (ms.length - (k + 1))
              case measure => omega
              case rel => exact ⟨k + 1, _, by simp, by omega, rfl, FIN⟩
        · have hN := HM.out.2.2.1 (by omega)
          obtain ⟨mn, hmn⟩ : ∃ mn : Nat, m.next = (mn : Int) := ⟨m.next.toNat, by omega⟩
          rw [hmn] at d4
          have hmnk : mn < k := by omega
          have F := HAS.out wr mn HC.out (by omega)
          have BN := hid fun hH => BIT.out hH mn hmnk
          by_cases e2 : m.kind = 2
          · rw [e2] at d0
            have HOF : Hid (off ms (txOf s) k i = (off ms (txOf s) (mn : Int) i && edgeIs (txOf s) m.edge i)) := by have := HO.out.2.2.1 e2; rw [hmn] at this; exact this
            clear hmn hN
            cases hbit : bitAt cur 0 mn with
            | false =>
              rw [hbit] at F
              have F := hid F
              have NO : Hid (H → off ms (txOf s) k i = false) := fun hH => by
                rw [HOF.out, ← BN.out hH, hbit]; simp
              clear hbit BN HOF
              go_wp2_with fail
              refine (F.out).mono ?_
              rintro e w4 ⟨rfl, rfl⟩
              clear F
              go_wp2_with fail
              have FIN := hid (HC.out.skip (Kept.refl _ _) (fun hH => NO.out hH))
              go_roundg (ms.length - (k + 1))
              case measure => omega
              case rel => exact ⟨k + 1, _, by simp, by omega, rfl, FIN⟩
            | true =>
              rw [hbit] at F
              have F := hid F
              have F2 := holds_rd wr m.edge ah ((txOf s).rune i)
              have HE : Hid (holdsR m.edge ah ((txOf s).rune i) = edgeIs (txOf s) m.edge i) := by have := holds_edge s m.edge HI.out; rw [HAH.out] at this; exact this
              cases hh : holdsR m.edge ah ((txOf s).rune i) with
              | false =>
                rw [hh] at F2
                have F2 := hid F2
                have NO : Hid (H → off ms (txOf s) k i = false) := fun hH => by
                  rw [HOF.out, ← BN.out hH, hbit, ← HE.out, hh]; simp
                clear hbit BN HOF hh HE
                go_wp2_with fail
                refine (F.out).mono ?_
                rintro e w4 ⟨rfl, rfl⟩
                clear F
                go_wp2_with fail
                refine (F2.out).mono ?_
                rintro e w4 ⟨rfl, rfl⟩
                clear F2
                go_wp2_with fail
                have FIN := hid (HC.out.skip (Kept.refl _ _) (fun hH => NO.out hH))
                go_roundg (ms.length - (k + 1))
                case measure => omega
                case rel => exact ⟨k + 1, _, by simp, by omega, rfl, FIN⟩
              | true =>
                rw [hh] at F2
                have F2 := hid F2
                have YES : Hid (H → off ms (txOf s) k i = true) := fun hH => by
                  rw [HOF.out, ← BN.out hH, hbit, ← HE.out, hh]; simp
                clear hbit BN HOF hh HE
                go_wp2_with fail
                refine (F.out).mono ?_
                rintro e w4 ⟨rfl, rfl⟩
                clear F
                go_wp2_with fail
                refine (F2.out).mono ?_
                rintro e w4 ⟨rfl, rfl⟩
                clear F2
                go_wp2_with fail
                refine (PUT.out _ HC.out).mono ?_
                rintro e w5 ⟨rfl, hb5, hk5⟩
                have FIN := hid (HC.out.put hkL hb5 hk5 (fun hH => YES.out hH))
                clear hb5 hk5
                go_wp2_with fail
                go_roundg (ms.length - (k + 1))
                case measure => omega
                case rel => exact ⟨k + 1, _, by simp, by omega, rfl, FIN⟩
          · by_cases e3 : m.kind = 3
            · rw [e3] at d0
              have HOF : Hid (off ms (txOf s) k i = off ms (txOf s) (mn : Int) i) := by have := HO.out.2.2.2.1 e3; rw [hmn] at this; exact this
              clear hmn hN
              cases hbit : bitAt cur 0 mn with
              | false =>
                rw [hbit] at F
                have F := hid F
                have NO : Hid (H → off ms (txOf s) k i = false) := fun hH => by
                  rw [HOF.out, ← BN.out hH, hbit]
                clear hbit BN HOF
                go_wp2_with fail
                refine (F.out).mono ?_
                rintro e w4 ⟨rfl, rfl⟩
                clear F
                go_wp2_with fail
                have FIN := hid (HC.out.skip (Kept.refl _ _) (fun hH => NO.out hH))
                go_roundg (ms.length - (k + 1))
                case measure => omega
                case rel => exact ⟨k + 1, _, by simp, by omega, rfl, FIN⟩
              | true =>
                rw [hbit] at F
                have F := hid F
                have YES : Hid (H → off ms (txOf s) k i = true) := fun hH => by
                  rw [HOF.out, ← BN.out hH, hbit]
                clear hbit BN HOF
                go_wp2_with fail
                refine (F.out).mono ?_
                rintro e w4 ⟨rfl, rfl⟩
                clear F
                go_wp2_with fail
                refine (PUT.out _ HC.out).mono ?_
                rintro e w5 ⟨rfl, hb5, hk5⟩
                have FIN := hid (HC.out.put hkL hb5 hk5 (fun hH => YES.out hH))
                clear hb5 hk5
                go_wp2_with fail
                go_roundg (ms.length - (k + 1))
                case measure => omega
                case rel => exact ⟨k + 1, _, by simp, by omega, rfl, FIN⟩
            · have e4 : m.kind = 4 := by omega
              rw [e4] at d0
              have hN2 := HM.out.2.2.2 e4
              obtain ⟨mo, hmo⟩ : ∃ mo : Nat, m.other = (mo : Int) := ⟨m.other.toNat, by omega⟩
              rw [hmo] at d5
              have hmok : mo < k := by omega
              have F2 := HAS.out wr mo HC.out (by omega)
              have BO := hid fun hH => BIT.out hH mo hmok
              have HOF : Hid (off ms (txOf s) k i = (off ms (txOf s) (mn : Int) i || off ms (txOf s) (mo : Int) i)) := by have := HO.out.2.2.2.2 e4; rw [hmn, hmo] at this; exact this
              clear hmn hN hmo hN2
              cases hbit : bitAt cur 0 mn with
              | true =>
                rw [hbit] at F
                have F := hid F
                have YES : Hid (H → off ms (txOf s) k i = true) := fun hH => by
                  rw [HOF.out, ← BN.out hH, hbit]; simp
                clear hbit BN HOF F2 BO
                go_wp2_with fail
                refine (F.out).mono ?_
                rintro e w4 ⟨rfl, rfl⟩
                clear F
                go_wp2_with fail
                refine (PUT.out _ HC.out).mono ?_
                rintro e w5 ⟨rfl, hb5, hk5⟩
                have FIN := hid (HC.out.put hkL hb5 hk5 (fun hH => YES.out hH))
                clear hb5 hk5
                go_wp2_with fail
                go_roundg (ms.length - (k + 1))
                case measure => omega
                case rel => exact ⟨k + 1, _, by simp, by omega, rfl, FIN⟩
              | false =>
                rw [hbit] at F
                have F := hid F
                cases hbo : bitAt cur 0 mo with
                | false =>
                  rw [hbo] at F2
                  have F2 := hid F2
                  have NO : Hid (H → off ms (txOf s) k i = false) := fun hH => by
                    rw [HOF.out, ← BN.out hH, ← BO.out hH, hbit, hbo]; simp
                  clear hbit BN HOF BO hbo
                  go_wp2_with fail
                  refine (F.out).mono ?_
                  rintro e w4 ⟨rfl, rfl⟩
                  clear F
                  go_wp2_with fail
                  refine (F2.out).mono ?_
                  rintro e w4 ⟨rfl, rfl⟩
                  clear F2
                  go_wp2_with fail
                  have FIN := hid (HC.out.skip (Kept.refl _ _) (fun hH => NO.out hH))
                  go_roundg (ms.length - (k + 1))
                  case measure => omega
                  case rel => exact ⟨k + 1, _, by simp, by omega, rfl, FIN⟩
                | true =>
                  rw [hbo] at F2
                  have F2 := hid F2
                  have YES : Hid (H → off ms (txOf s) k i = true) := fun hH => by
                    rw [HOF.out, ← BN.out hH, ← BO.out hH, hbit, hbo]; simp
                  clear hbit BN HOF BO hbo
                  go_wp2_with fail
                  refine (F.out).mono ?_
                  rintro e w4 ⟨rfl, rfl⟩
                  clear F
                  go_wp2_with fail
                  refine (F2.out).mono ?_
                  rintro e w4 ⟨rfl, rfl⟩
                  clear F2
                  go_wp2_with fail
                  refine (PUT.out _ HC.out).mono ?_
                  rintro e w5 ⟨rfl, hb5, hk5⟩
                  have FIN := hid (HC.out.put hkL hb5 hk5 (fun hH => YES.out hH))
                  clear hb5 hk5
                  go_wp2_with fail
                  go_roundg (ms.length - (k + 1))
                  case measure => omega
                  case rel => exact ⟨k + 1, _, by simp, by omega, rfl, FIN⟩
    · have hk' : k = ms.length := by omega
      have hlt2 : ¬ (k : Int) < (ms.length : Int) := by omega
      have FIN : Hid (Kept (fun i => i = B1) w wr ∧ ∃ cur, cur.length = L ∧ W64 cur ∧ Blk wr B1 (u64L (splice ws o1 cur)).toArray 132 ∧ (H → ∀ u : Nat, u < ms.length → bitAt cur 0 u = off ms (txOf s) u i)) :=
        ⟨HC.out.2.2.2.1, cur, HC.out.1, HC.out.2.1, HC.out.2.2.1, fun hH u hu => by rw [HC.out.2.2.2.2 hH u (by have := hLL.out; omega)]; simp; omega⟩
      clear hk' HC
      go_wp2_with fail
      go_end0
      exact ⟨rfl, FIN.out⟩
end Go.Proofs.YtnbfddjaonlmaaaGreatDoor
