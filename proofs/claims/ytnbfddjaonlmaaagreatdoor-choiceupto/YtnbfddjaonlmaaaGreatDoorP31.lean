/- Rows of bits, as words of 64: cells, a part of them cleared or copied; what their bits are then. The events of a text as plain functions; that they stand apart, and that their groups lie within them. The machine of a pattern: its runs are the pattern's first tries. -/
import Derived.Test.YtnbfddjaonlmaaaGreatDoorP01
import Derived.Laws.CopyOwn
import Derived.Test.YtnbfddjaonlmaaaGreatDoorP18
import Derived.Test.YtnbfddjaonlmaaaGreatDoorP14
import Derived.Test.YtnbfddjaonlmaaaGreatDoorP29
import Derived.Test.YtnbfddjaonlmaaaGreatDoorP30
set_option linter.unusedVariables false
set_option maxRecDepth 100000
namespace Go.Proofs.YtnbfddjaonlmaaaGreatDoor
open Go.RowKit

def u64L (ws : List Nat) : List Value := ws.map fun (x : Nat) => Value.int .u64 (x : Int)
theorem u64L_length (ws : List Nat) : (u64L ws).length = ws.length := by simp [u64L]
def W64 (ws : List Nat) : Prop := ∀ x ∈ ws, x < 18446744073709551616
/-- the bit of the state u in the row that begins at o -/
def bitAt (ws : List Nat) (o u : Nat) : Bool := (ws.getD (o + u / 64) 0).testBit (u % 64)
def putAt (ws : List Nat) (o u : Nat) : List Nat := ws.set (o + u / 64) (ws.getD (o + u / 64) 0 ||| 2 ^ (u % 64))
theorem putAt_length (ws : List Nat) (o u : Nat) : (putAt ws o u).length = ws.length := by simp [putAt]
theorem getD_setN (l : List Nat) (k m : Nat) (v d : Nat) (h : k < l.length) : (l.set k v).getD m d = if k = m then v else l.getD m d := by
  rw [List.getD_eq_getElem?_getD, List.getD_eq_getElem?_getD, List.getElem?_set]
  by_cases e : k = m
  · subst e; simp [h]
  · simp [e]
theorem W64.getD {ws : List Nat} (h : W64 ws) (k : Nat) : ws.getD k 0 < 18446744073709551616 := by
  rw [List.getD_eq_getElem?_getD]
  cases e : ws[k]? with
  | none => simp
  | some x => exact h x (List.mem_of_getElem? e)
theorem W64.put {ws : List Nat} (h : W64 ws) (o u : Nat) : W64 (putAt ws o u) := fun x hx => by
  unfold putAt at hx
  rcases List.mem_or_eq_of_mem_set hx with h1 | h1
  · exact h x h1
  · subst h1
    have h2 : (2 : Nat) ^ (u % 64) < 2 ^ 64 := Nat.pow_lt_pow_right (by decide) (Nat.mod_lt _ (by decide))
    exact Nat.or_lt_two_pow (n := 64) (h.getD _) h2
theorem bitAt_put {ws : List Nat} {o u v : Nat} (h : o + u / 64 < ws.length) : bitAt (putAt ws o u) o v = (bitAt ws o v || decide (v = u)) := by
  unfold bitAt putAt
  rw [getD_setN _ _ _ _ _ h]
  by_cases e : o + u / 64 = o + v / 64
  · rw [if_pos e, Nat.testBit_or, Nat.testBit_two_pow, ← e]
    congr 1
    rw [Bool.eq_iff_iff]
    simp only [decide_eq_true_eq]
    omega
  · rw [if_neg e]
    have : decide (v = u) = false := by
      rw [decide_eq_false_iff_not]; intro h; subst h; exact e rfl
    rw [this, Bool.or_false]
theorem splice_getD (l : List Nat) (o : Nat) (cs : List Nat) (h : o + cs.length ≤ l.length) (k d : Nat) : (splice l o cs).getD k d = if o ≤ k ∧ k < o + cs.length then cs.getD (k - o) d else l.getD k d := by
  unfold splice
  simp only [List.getD_eq_getElem?_getD]
  have hl : (l.take o).length = o := by simp; omega
  by_cases h1 : k < o
  · rw [if_neg (by omega), List.getElem?_append_left (by omega), List.getElem?_take_of_lt h1]
  · rw [List.getElem?_append_right (by omega), hl]
    by_cases h2 : k < o + cs.length
    · rw [if_pos (by omega), List.getElem?_append_left (by omega)]
    · rw [if_neg (by omega), List.getElem?_append_right (by omega), List.getElem?_drop]
      congr 2
      omega
theorem u64_splice (l : List Nat) (o : Nat) (cs : List Nat) : splice (u64L l) o (u64L cs) = u64L (splice l o cs) := by
  unfold splice u64L
  simp [List.map_take, List.map_drop]
theorem W64.splice {l cs : List Nat} (hl : W64 l) (hc : W64 cs) (o : Nat) : W64 (splice l o cs) := fun x hx => by
  unfold Go.splice at hx
  rcases List.mem_append.1 hx with h | h
  · exact hl x (List.mem_of_mem_take h)
  · rcases List.mem_append.1 h with h | h
    · exact hc x h
    · exact hl x (List.mem_of_mem_drop h)
/-- the bits of a row that was written over -/
theorem bitAt_splice {l : List Nat} {o : Nat} {cs : List Nat} (h : o + cs.length ≤ l.length) {u : Nat} (hu : u / 64 < cs.length) : bitAt (splice l o cs) o u = bitAt cs 0 u := by
  unfold bitAt
  rw [splice_getD l o cs h, if_pos (by omega)]
  congr 2
  omega
/-- the bits of another row -/
theorem bitAt_other {l : List Nat} {o o' L : Nat} {cs : List Nat} (h : o + cs.length ≤ l.length) (hd : o' + L ≤ o ∨ o + cs.length ≤ o') {u : Nat} (hu : u / 64 < L) : bitAt (splice l o cs) o' u = bitAt l o' u := by
  unfold bitAt
  rw [splice_getD l o cs h, if_neg (by omega)]
def seg (l : List Nat) (o L : Nat) : List Nat := (l.drop o).take L
theorem seg_length {l : List Nat} {o L : Nat} (h : o + L ≤ l.length) : (seg l o L).length = L := by unfold seg; simp; omega
theorem seg_getD {l : List Nat} {o L k d : Nat} (hk : k < L) : (seg l o L).getD k d = l.getD (o + k) d := by
  unfold seg
  simp only [List.getD_eq_getElem?_getD]
  rw [List.getElem?_take_of_lt hk, List.getElem?_drop]
theorem bitAt_seg {l : List Nat} {o L u : Nat} (hu : u / 64 < L) : bitAt (seg l o L) 0 u = bitAt l o u := by
  unfold bitAt
  rw [Nat.zero_add, seg_getD hu]
theorem W64.seg {l : List Nat} (h : W64 l) (o L : Nat) : W64 (seg l o L) := fun x hx => h x (List.mem_of_mem_drop (List.mem_of_mem_take hx))
theorem ext_getD {a b : List Nat} (hl : a.length = b.length) (hg : ∀ k, a.getD k 0 = b.getD k 0) : a = b := by
  refine List.ext_getElem hl fun k h1 h2 => ?_
  have := hg k
  rw [List.getD_eq_getElem?_getD, List.getD_eq_getElem?_getD, List.getElem?_eq_getElem h1, List.getElem?_eq_getElem h2] at this
  simpa using this
theorem putAt_splice {l cs : List Nat} {o u : Nat} (h : o + cs.length ≤ l.length) (hu : u / 64 < cs.length) : putAt (splice l o cs) o u = splice l o (putAt cs 0 u) := by
  have hlen := length_splice l o cs h
  have hp : o + (putAt cs 0 u).length ≤ l.length := by rw [putAt_length]; exact h
  refine ext_getD ?_ fun k => ?_
  · rw [putAt_length, hlen, length_splice l o _ hp]
  · rw [splice_getD l o _ hp, putAt_length]
    unfold putAt
    rw [getD_setN _ _ _ _ _ (by omega), splice_getD l o cs h, splice_getD l o cs h]
    by_cases e1 : o + u / 64 = k
    · subst e1
      rw [if_pos rfl, if_pos (by omega), if_pos (by omega), Nat.add_sub_cancel_left, Nat.zero_add, getD_setN _ _ _ _ _ hu, if_pos rfl]
    · rw [if_neg e1]
      by_cases e2 : o ≤ k ∧ k < o + cs.length
      · rw [if_pos e2, if_pos e2, Nat.zero_add, getD_setN _ _ _ _ _ hu, if_neg (by omega)]
      · rw [if_neg e2, if_neg e2]
theorem bitAt_zeros (L u : Nat) : bitAt (List.replicate L 0) 0 u = false := by
  unfold bitAt
  rw [List.getD_eq_getElem?_getD, List.getElem?_replicate]
  split <;> simp
theorem W64.zeros (L : Nat) : W64 (List.replicate L 0) := fun x hx => by rw [List.eq_of_mem_replicate hx]; omega
theorem zeroCells_one (v : Value) (n : Nat) : (Builtin.zeroCells #[v] n).toList = List.replicate n v := by
  unfold Builtin.zeroCells
  refine List.ext_getElem (by simp) fun k h1 h2 => ?_
  simp [Nat.mod_one]
theorem Kept.row {w : World} (g : Nat) (cs : Array Value) : Kept (fun i => i = g) w (w.setRow g cs) := ⟨rfl, rfl, rfl, by simp [World.setRow], fun k _ hk => setRow_other w g k cs hk⟩
/-- copy, of a row of words over another -/
theorem wpList_copy_words {P : Program} {w : World} {ops : Array Oper} {rest : List Oper} {o : Oper} {a : Act} {Q : Exit → Act → World → Prop} (hgd : o.guard = none) (d s : Operand) (dT sT : TypeId)
    (ho : o.op = .call { callee := .builtin .copy, args := #[d, s], argTypes := #[dT, sT] }) (elem : TypeId) (hu : P.underlying dT = some (.slice elem)) (hsz : (P.info? elem).map (·.size) = some 1)
    (g off L dCap sCap g2 off2 : Nat) (hd : a.eval d = .slice (some ⟨g, off, none⟩) L dCap) (hs : a.eval s = .slice (some ⟨g2, off2, none⟩) L sCap)
    (ws : List Nat) (t : TypeId) (hg : Blk w g (u64L ws).toArray t) (cs : List Nat) (hn : cs.length = L)
    (hsrc : ∀ k, k < L → w.cell? ⟨g2, off2 + k, none⟩ = some (.int .u64 (cs.getD k 0 : Nat))) (hfit : off + L ≤ ws.length)
    (h : ∀ w', Blk w' g (u64L (splice ws off cs)).toArray t → Kept (fun i => i = g) w w' → wpList P ops Q rest (a.put o.dst (goInt L)) w') : wpList P ops Q (o :: rest) a w := by
  subst hn
  refine wpList_copy_own hgd d s dT sT ho elem hu hsz g off cs.length dCap ⟨g2, off2, none⟩ cs.length sCap hd hs _ t hg (u64L cs) (by simp [u64L_length]) (fun j v hv => ?_) (by simpa [u64L_length] using hfit) (fun v hv => ?_) ?_
  · have hj : j < cs.length := by have := (List.getElem?_eq_some_iff.1 hv).1; simpa [u64L_length] using this
    have := hsrc j hj
    have e : (⟨g2, off2, none⟩ : Addr).add j = ⟨g2, off2 + j, none⟩ := by unfold Addr.add; split <;> simp_all
    rw [e, this]
    unfold u64L at hv
    simp [List.getD_eq_getElem?_getD, List.getElem?_eq_getElem hj] at hv ⊢
    exact hv
  · unfold u64L at hv
    obtain ⟨x, _, rfl⟩ := List.mem_map.1 hv
    rfl
  · rw [u64L_length]
    refine h _ ?_ (Kept.row g _)
    have := setRow_heap w g _ (List.take off (u64L ws) ++ (u64L cs ++ List.drop (off + cs.length) (u64L ws))).toArray t _ hg
    rw [← u64_splice]
    unfold splice Blk
    rw [u64L_length]
    exact this
/-- the same, as the last operation of a region -/
theorem wp_copy_words {P : Program} {w : World} {o : Oper} {a : Act} {K : Act → World → Prop} {Q : Exit → Act → World → Prop} (d s : Operand) (dT sT : TypeId)
    (ho : o.op = .call { callee := .builtin .copy, args := #[d, s], argTypes := #[dT, sT] }) (elem : TypeId) (hu : P.underlying dT = some (.slice elem)) (hsz : (P.info? elem).map (·.size) = some 1)
    (g off L dCap sCap g2 off2 : Nat) (hd : a.eval d = .slice (some ⟨g, off, none⟩) L dCap) (hs : a.eval s = .slice (some ⟨g2, off2, none⟩) L sCap)
    (ws : List Nat) (t : TypeId) (hg : Blk w g (u64L ws).toArray t) (cs : List Nat) (hn : cs.length = L)
    (hsrc : ∀ k, k < L → w.cell? ⟨g2, off2 + k, none⟩ = some (.int .u64 (cs.getD k 0 : Nat))) (hfit : off + L ≤ ws.length)
    (h : ∀ w', Blk w' g (u64L (splice ws off cs)).toArray t → Kept (fun i => i = g) w w' → K (a.put o.dst (goInt L)) w') : o.wp P a w K Q := by
  subst hn
  have hrun := run_copy_row P w dT sT o.type elem g off cs.length dCap ⟨g2, off2, none⟩ cs.length sCap (u64L ws).toArray t (u64L cs) hu hsz hg (by simp [u64L_length]) (fun j v hv => by
    have hj : j < cs.length := by have := (List.getElem?_eq_some_iff.1 hv).1; simpa [u64L_length] using this
    have := hsrc j hj
    have e : (⟨g2, off2, none⟩ : Addr).add j = ⟨g2, off2 + j, none⟩ := by unfold Addr.add; split <;> simp_all
    rw [e, this]
    unfold u64L at hv
    simp [List.getD_eq_getElem?_getD, List.getElem?_eq_getElem hj] at hv ⊢
    exact hv) (by simpa [u64L_length] using hfit) (fun v hv => by
    unfold u64L at hv
    obtain ⟨x, _, rfl⟩ := List.mem_map.1 hv
    rfl)
  unfold Oper.wp
  simp [execOp, ho, resolve, invoke, builtin, hd, hs, hrun, Result.andThen]
  rw [u64L_length]
  refine h _ ?_ (Kept.row g _)
  have := setRow_heap w g _ (List.take off (u64L ws) ++ (u64L cs ++ List.drop (off + cs.length) (u64L ws))).toArray t _ hg
  rw [← u64_splice]
  unfold splice Blk
  rw [u64L_length]
  exact this
/-- clear, of a row of words -/
theorem wpList_clear_own {P : Program} {w : World} {ops : Array Oper} {rest : List Oper} {o : Oper} {a : Act} {Q : Exit → Act → World → Prop} (hgd : o.guard = none) (d : Operand) (dT : TypeId)
    (ho : o.op = .call { callee := .builtin .clear, args := #[d], argTypes := #[dT] }) (elem : TypeId) (hu : P.underlying dT = some (.slice elem)) (hz : (zeroValue elem).run P w = .ok (.int .u64 0) w)
    (g off n c : Nat) (hd : a.eval d = .slice (some ⟨g, off, none⟩) n c) (hn : n ≠ 0)
    (ws : List Nat) (t : TypeId) (hg : Blk w g (u64L ws).toArray t) (hfit : off + n ≤ ws.length)
    (h : ∀ w', Blk w' g (u64L (splice ws off (List.replicate n 0))).toArray t → Kept (fun i => i = g) w w' → wpList P ops Q rest (a.put o.dst (.tuple #[])) w') : wpList P ops Q (o :: rest) a w := by
  refine wpList_plain hgd fun K hK => ?_
  have h := h _ (setRow_heap w g _ _ t _ hg) (Kept.row g _)
  have hst := run_storeCells_at P g off t (List.replicate n (.int .u64 0)) 0 _ w hg (by simpa [u64L] using hfit) (by intro v hv; rw [List.eq_of_mem_replicate hv]; rfl)
  have hrun : (Builtin.clear_ #[dT] o.type #[.slice (some ⟨g, off, none⟩) n c]).run P w = .ok (.tuple #[]) (w.setRow g (u64L (splice ws off (List.replicate n 0))).toArray) := by
    obtain ⟨m, rfl⟩ : ∃ m, n = m + 1 := ⟨n - 1, by omega⟩
    have e : (Value.cells (.int .u64 0)) = #[.int .u64 0] := rfl
    have e2 : u64L (List.replicate (m + 1) 0) = List.replicate (m + 1) (.int .u64 0) := by simp [u64L]
    simp only [Builtin.clear_, go_sem]
    simp [run_underlying hu, hz, zeroCells_one, hst]
    rw [← u64_splice, e2]
    unfold splice
    simp
  unfold Oper.wp
  simp [execOp, ho, resolve, invoke, builtin, hd, hrun, Result.andThen]
  exact hK _ _ h
end Go.Proofs.YtnbfddjaonlmaaaGreatDoor
namespace Go.Proofs.YtnbfddjaonlmaaaGreatDoor

def doneC : Cont := fun i gs => some (i, gs)
/-- the first try from the i-th place -/
def tryAt (C : CT) (G : Nat) (x : TX) (i : Nat) : Got := (semC x C (doneC, doneC)).2 i (List.replicate (2 * G) (-1))
/-- an event: the numbers of its first boundary and of its last, its groups -/
structure Ev where
  a : Nat
  b : Nat
  gs : List Int
/-- the events from the i-th place on; told: where the event ahead ended -/
def evs (T : Nat → Got) (n : Nat) : Nat → Nat → Option Nat → List Ev
  | 0, _, _ => []
  | k + 1, i, told => if n < i then [] else match T i with
    | none => evs T n k (i + 1) told
    | some v => if i = v.1 then (if told = some v.1 then evs T n k (v.1 + 1) told else ⟨i, v.1, v.2⟩ :: evs T n k (v.1 + 1) (some v.1)) else ⟨i, v.1, v.2⟩ :: evs T n k v.1 (some v.1)
/-- tries go on, and end in the text -/
def GoesOn (T : Nat → Got) (n : Nat) : Prop := ∀ i j gs, i ≤ n → T i = some (j, gs) → i ≤ j ∧ j ≤ n
theorem evs_more {T : Nat → Got} {n : Nat} (hT : GoesOn T n) : ∀ (k l i : Nat) (told : Option Nat), n + 1 - i ≤ k → k ≤ l → evs T n l i told = evs T n k i told := by
  intro k
  induction k with
  | zero =>
    intro l i told h1 h2
    cases l with
    | zero => rfl
    | succ l => unfold evs; rw [if_pos (by omega)]
  | succ k ih =>
    intro l i told h1 h2
    obtain ⟨l, rfl⟩ : ∃ l', l = l' + 1 := ⟨l - 1, by omega⟩
    unfold evs
    by_cases hn : n < i
    · rw [if_pos hn, if_pos hn]
    · rw [if_neg hn, if_neg hn]
      cases e : T i with
      | none => exact ih l (i + 1) told (by omega) (by omega)
      | some v =>
        obtain ⟨j, gs⟩ := v
        have hf := hT i j gs (by omega) e
        simp only
        by_cases hij : i = j
        · rw [if_pos hij, if_pos hij, ih l (j + 1) told (by omega) (by omega), ih l (j + 1) (some j) (by omega) (by omega)]
        · rw [if_neg hij, if_neg hij, ih l j (some j) (by omega) (by omega)]
def evsFrom (T : Nat → Got) (n i : Nat) (told : Option Nat) : List Ev := evs T n (n + 1 - i) i told
theorem evsFrom_end {T : Nat → Got} {n i : Nat} {told : Option Nat} (h : n < i) : evsFrom T n i told = [] := by
  unfold evsFrom
  rw [show n + 1 - i = 0 by omega]
  rfl
theorem evsFrom_none {T : Nat → Got} {n i : Nat} {told : Option Nat} (h : i ≤ n) (e : T i = none) : evsFrom T n i told = evsFrom T n (i + 1) told := by
  unfold evsFrom
  rw [show n + 1 - i = (n + 1 - (i + 1)) + 1 by omega]
  conv => lhs; unfold evs
  rw [if_neg (by omega), e]
theorem evsFrom_some {T : Nat → Got} {n i j : Nat} {gs : List Int} {told : Option Nat} (hT : GoesOn T n) (h : i ≤ n) (e : T i = some (j, gs)) :
    evsFrom T n i told = if i = j then (if told = some j then evsFrom T n (j + 1) told else ⟨i, j, gs⟩ :: evsFrom T n (j + 1) (some j)) else ⟨i, j, gs⟩ :: evsFrom T n j (some j) := by
  have hf := hT i j gs h e
  unfold evsFrom
  rw [show n + 1 - i = (n - i) + 1 by omega]
  conv => lhs; unfold evs
  rw [if_neg (by omega), e]
  simp only
  by_cases hij : i = j
  · rw [if_pos hij, if_pos hij, evs_more hT (n + 1 - (j + 1)) (n - i) (j + 1) told (by omega) (by omega), evs_more hT (n + 1 - (j + 1)) (n - i) (j + 1) (some j) (by omega) (by omega)]
  · rw [if_neg hij, if_neg hij, evs_more hT (n + 1 - j) (n - i) j (some j) (by omega) (by omega)]

/-- events in order and apart -/
def Apart (T : Nat → Got) (n : Nat) : Nat → Option Nat → List Ev → Prop
  | _, _, [] => True
  | lo, told, e :: es => lo ≤ e.a ∧ e.a ≤ e.b ∧ e.b ≤ n ∧ told ≠ some e.b ∧ T e.a = some (e.b, e.gs) ∧ Apart T n e.b (some e.b) es
/-! ## groups -/
def FineG (lo hi : Int) (gs : List Int) (g : Nat) : Prop := (gs.getD (2 * g) (-1) = -1 ∧ gs.getD (2 * g + 1) (-1) = -1) ∨ (lo ≤ gs.getD (2 * g) (-1) ∧ gs.getD (2 * g) (-1) ≤ gs.getD (2 * g + 1) (-1) ∧ gs.getD (2 * g + 1) (-1) ≤ hi)
/-- each group is well, or it is one of those that stand open -/
def InK (x : TX) (lo : Int) (G : Nat) (O : Nat → Prop) (i : Nat) (gs : List Int) : Prop := gs.length = 2 * G ∧ ∀ g, g < G → (¬ O g → FineG lo (x.bound i) gs g) ∧ (O g → lo ≤ gs.getD (2 * g) (-1) ∧ gs.getD (2 * g) (-1) ≤ x.bound i)
def PK (x : TX) (lo : Int) (G : Nat) (O : Nat → Prop) (K : Cont) : Prop := ∀ i gs, i ≤ x.l.length → lo ≤ x.bound i → InK x lo G O i gs → ∀ j gs', K i gs = some (j, gs') → i ≤ j ∧ j ≤ x.l.length ∧ InK x lo G (fun _ => False) j gs'
def PP (x : TX) (lo : Int) (G : Nat) (O : Nat → Prop) (K : Cont × Cont) : Prop := PK x lo G O K.1 ∧ PK x lo G O K.2
def Up1 (x : TX) : Prop := ∀ i j, i ≤ j → x.bound i ≤ x.bound j
theorem InK.later {x : TX} {lo : Int} {G : Nat} {O : Nat → Prop} {i j : Nat} {gs : List Int} (hx : Up1 x) (h : InK x lo G O i gs) (hij : i ≤ j) : InK x lo G O j gs := by
  have hb := hx i j hij
  refine ⟨h.1, fun g hg => ⟨fun hO => ?_, fun hO => ?_⟩⟩
  · rcases (h.2 g hg).1 hO with h1 | h1
    · exact Or.inl h1
    · exact Or.inr ⟨h1.1, h1.2.1, by omega⟩
  · have := (h.2 g hg).2 hO; omega
theorem PK.nowhere (x : TX) (lo : Int) (G : Nat) (O : Nat → Prop) : PK x lo G O nowhere := fun i gs _ _ _ j gs' h => by cases h
theorem PK.fork {x : TX} {lo : Int} {G : Nat} {O : Nat → Prop} {a b : Cont} (ha : PK x lo G O a) (hb : PK x lo G O b) : PK x lo G O (forkC a b) := fun i gs h1 h2 h3 j gs' h => by
  unfold forkC at h
  cases e : a i gs with
  | none => rw [e] at h; exact hb i gs h1 h2 h3 j gs' h
  | some v => rw [e] at h; cases h; exact ha i gs h1 h2 h3 j gs' e
theorem PP.fork {x : TX} {lo : Int} {G : Nat} {O : Nat → Prop} {a b : Cont × Cont} (ha : PP x lo G O a) (hb : PP x lo G O b) : PP x lo G O (forkP a b) := ⟨ha.1.fork hb.1, ha.2.fork hb.2⟩
theorem PP.either {x : TX} {lo : Int} {G : Nat} {O : Nat → Prop} {a b : Cont × Cont} (lz : Bool) (ha : PP x lo G O a) (hb : PP x lo G O b) : PP x lo G O (eitherP lz a b) := by
  unfold eitherP
  cases lz
  · exact ha.fork hb
  · exact hb.fork ha
theorem PK.take {x : TX} {lo : Int} {G : Nat} {O : Nat → Prop} (hx : Up1 x) (sp : Spans) (fo nt : Bool) {k : Cont} (hk : PK x lo G O k) : PK x lo G O (takeC x sp fo nt k) := fun i gs h1 h2 h3 j gs' h => by
  unfold takeC at h
  split at h
  · rename_i c
    have hlt : i < x.l.length := by simp at c; exact c.1
    have := hk (i + 1) gs hlt (by have := hx i (i + 1) (by omega); omega) (h3.later hx (by omega)) j gs' h
    exact ⟨by omega, this.2⟩
  · cases h
theorem PK.stand {x : TX} {lo : Int} {G : Nat} {O : Nat → Prop} (ed : Int) {k : Cont} (hk : PK x lo G O k) : PK x lo G O (standC x ed k) := fun i gs h1 h2 h3 j gs' h => by
  unfold standC at h
  split at h
  · exact hk i gs h1 h2 h3 j gs' h
  · cases h
theorem getD_set_self (l : List Int) (k : Nat) (v d : Int) (h : k < l.length) : (l.set k v).getD k d = v := by simp [List.getD_eq_getElem?_getD, h]
theorem getD_set_other (l : List Int) (k m : Nat) (v d : Int) (h : k ≠ m) : (l.set k v).getD m d = l.getD m d := by
  simp [List.getD_eq_getElem?_getD, h]
/-- a group's end: it is well then -/
theorem PK.close {x : TX} {lo : Int} {G : Nat} {O : Nat → Prop} (g : Nat) (hg : g < G) {k : Cont} (hk : PK x lo G O k) : PK x lo G (fun q => O q ∨ q = g) (markC x (2 * g + 1) k) := fun i gs h1 h2 h3 j gs' h => by
  unfold markC at h
  refine hk i _ h1 h2 ?_ j gs' h
  refine ⟨by simp [h3.1], fun q hq => ?_⟩
  by_cases e : q = g
  · subst e
    have hl : 2 * q + 1 < gs.length := by have := h3.1; omega
    have h4 := (h3.2 q hq).2 (Or.inr rfl)
    rw [FineG, getD_set_self _ _ _ _ hl, getD_set_other _ _ _ _ _ (by omega)]
    exact ⟨fun _ => Or.inr ⟨h4.1, h4.2, Int.le_refl _⟩, fun _ => h4⟩
  · rw [FineG, getD_set_other _ _ _ _ _ (by omega), getD_set_other _ _ _ _ _ (by omega)]
    exact ⟨fun hO => (h3.2 q hq).1 (fun hx => hx.elim hO e), fun hO => (h3.2 q hq).2 (Or.inl hO)⟩
/-- a group's beginning: it stands open then -/
theorem PK.open {x : TX} {lo : Int} {G : Nat} {O : Nat → Prop} (g : Nat) (hg : g < G) {k : Cont} (hk : PK x lo G (fun q => O q ∨ q = g) k) : PK x lo G O (markC x (2 * g) k) := fun i gs h1 h2 h3 j gs' h => by
  unfold markC at h
  refine hk i _ h1 h2 ?_ j gs' h
  refine ⟨by simp [h3.1], fun q hq => ?_⟩
  by_cases e : q = g
  · subst e
    have hl : 2 * q < gs.length := by have := h3.1; omega
    rw [getD_set_self _ _ _ _ hl]
    exact ⟨fun hO => absurd (Or.inr rfl) hO, fun _ => ⟨h2, Int.le_refl _⟩⟩
  · rw [FineG, getD_set_other _ _ _ _ _ (by omega), getD_set_other _ _ _ _ _ (by omega)]
    exact ⟨fun hO => (h3.2 q hq).1 (fun hx => hO (Or.inl hx)), fun hO => (h3.2 q hq).2 (hO.resolve_right e)⟩
def PF (x : TX) (lo : Int) (G : Nat) (f : Cont × Cont → Cont × Cont) : Prop := ∀ O K, PP x lo G O K → PP x lo G O (f K)
theorem PF.iter {x : TX} {lo : Int} {G : Nat} {f : Cont × Cont → Cont × Cont} (hf : PF x lo G f) : ∀ m, PF x lo G (iterP f m)
  | 0 => fun O K h => h
  | m + 1 => fun O K h => hf O _ (PF.iter hf m O K h)
theorem PF.opts {x : TX} {lo : Int} {G : Nat} {f : Cont × Cont → Cont × Cont} (hf : PF x lo G f) (lz : Bool) {O : Nat → Prop} {nx : Cont × Cont} (hn : PP x lo G O nx) : ∀ m, PP x lo G O (iterP (optP f lz nx) m nx)
  | 0 => hn
  | m + 1 => (hf O _ (PF.opts hf lz hn m)).either lz hn
theorem PF.again {x : TX} {lo : Int} {G : Nat} {f : Cont × Cont → Cont × Cont} (hf : PF x lo G f) (lz : Bool) {O : Nat → Prop} {rest : Cont} (hr : PK x lo G O rest) : ∀ m, PK x lo G O (againC f lz rest m)
  | 0 => PK.nowhere x lo G O
  | m + 1 => by
    have h1 := (hf O (nowhere, againC f lz rest m) ⟨PK.nowhere x lo G O, PF.again hf lz hr m⟩).1
    unfold againC
    cases lz
    · exact h1.fork hr
    · exact hr.fork h1
theorem PF.loop {x : TX} {lo : Int} {G : Nat} {f : Cont × Cont → Cont × Cont} (hf : PF x lo G f) (lz : Bool) : PF x lo G (loopP x f lz) := fun O K h => by
  have h1 := (hf O (nowhere, againC f lz K.2 (x.l.length + 1)) ⟨PK.nowhere x lo G O, hf.again lz h.2 _⟩).1
  unfold loopP
  exact PP.either lz ⟨h1, h1⟩ h
theorem PF.times {x : TX} {lo : Int} {G : Nat} {f : Cont × Cont → Cont × Cont} (hf : PF x lo G f) (a b : Int) (lz : Bool) : PF x lo G (timesP x f a b lz) := fun O K h => by
  unfold timesP
  split
  · exact hf.iter _ O _ (hf.loop lz O K h)
  · exact hf.iter _ O _ (hf.opts lz h _)
mutual
theorem semC_pf (x : TX) (hx : Up1 x) (lo : Int) (G : Nat) : ∀ C : CT, C.gok G → PF x lo G (semC x C)
  | .node k sp fo nt ed gr a b lz kids, hg => by
    unfold CT.gok at hg
    obtain ⟨g1, g2, g3⟩ := hg
    have hOne := semOne_pf x hx lo G kids g3
    have hSeq := semSeq_pf x hx lo G kids g3
    have hAlt := semAlt_pf x hx lo G kids g3
    unfold semC
    by_cases k0 : k = 0
    · simp only [k0, if_true]
      exact fun O K h => ⟨PK.take hx sp fo nt h.2, PK.take hx sp fo nt h.2⟩
    · by_cases k1 : k = 1
      · simp only [k1, if_true, Int.reduceEq, if_false]
        exact fun O K h => ⟨PK.stand ed h.1, PK.stand ed h.2⟩
      · by_cases k2 : k = 2
        · simp only [k2, if_true, Int.reduceEq, if_false]
          by_cases g0 : gr = 0
          · simp only [g0, if_true]; exact hOne
          · simp only [g0, if_false]
            intro O K h
            have hlt : gr.toNat - 1 < G := by omega
            have h1 := hOne (fun q => O q ∨ q = gr.toNat - 1) (markP x (2 * (gr.toNat - 1) + 1) K) ⟨PK.close _ hlt h.1, PK.close _ hlt h.2⟩
            exact ⟨PK.open _ hlt h1.1, PK.open _ hlt h1.2⟩
        · simp only [k0, k1, k2, if_false]
          by_cases k3 : k = 3
          · simp only [k3, if_true]; exact hSeq
          · by_cases k4 : k = 4
            · simp only [k4, if_true, Int.reduceEq, if_false]; exact hAlt
            · simp only [k3, k4, if_false]
              exact hOne.times a b lz
theorem semOne_pf (x : TX) (hx : Up1 x) (lo : Int) (G : Nat) : ∀ cs : List CT, CT.goks G cs → PF x lo G (semOne x cs)
  | [], _ => fun O K h => by unfold semOne; exact h
  | c :: cs, hg => by
    unfold CT.goks at hg
    unfold semOne
    exact semC_pf x hx lo G c hg.1
theorem semSeq_pf (x : TX) (hx : Up1 x) (lo : Int) (G : Nat) : ∀ cs : List CT, CT.goks G cs → PF x lo G (semSeq x cs)
  | [], _ => fun O K h => by unfold semSeq; exact h
  | c :: cs, hg => by
    unfold CT.goks at hg
    unfold semSeq
    have h1 := semC_pf x hx lo G c hg.1
    have h2 := semSeq_pf x hx lo G cs hg.2
    exact fun O K h => h1 O _ (h2 O K h)
theorem semAlt_pf (x : TX) (hx : Up1 x) (lo : Int) (G : Nat) : ∀ cs : List CT, CT.goks G cs → PF x lo G (semAlt x cs)
  | [], _ => fun O K h => by unfold semAlt; exact ⟨PK.nowhere x lo G O, PK.nowhere x lo G O⟩
  | [c], hg => by
    unfold CT.goks at hg
    unfold semAlt
    exact semC_pf x hx lo G c hg.1
  | c :: d :: cs, hg => by
    unfold CT.goks at hg
    unfold semAlt
    have h1 := semC_pf x hx lo G c hg.1
    have h2 := semAlt_pf x hx lo G (d :: cs) hg.2
    exact fun O K h => (h1 O K h).fork (h2 O K h)
end
theorem up_txOf (s : ByteArray) : Up1 (txOf s) := fun i j h => by rw [bound_bd, bound_bd]; have := bd_mono s h; omega
theorem getD_replicate (n k : Nat) : (List.replicate n (-1 : Int)).getD k (-1) = -1 := by
  rw [List.getD_eq_getElem?_getD, List.getElem?_replicate]
  split <;> rfl
theorem tryAt_fine {C : CT} {G : Nat} (hg : C.gok G) (s : ByteArray) {i j : Nat} {gs : List Int} (hi : i ≤ (runesOf s).length) (h : tryAt C G (txOf s) i = some (j, gs)) : i ≤ j ∧ j ≤ (runesOf s).length ∧ gs.length = 2 * G ∧ ∀ g, g < G → FineG (bd s i) (bd s j) gs g := by
  have h1 := (semC_pf (txOf s) (up_txOf s) (bd s i) G C hg (fun _ => False) (doneC, doneC) ⟨fun i gs a b c j gs' h => by cases h; exact ⟨Nat.le_refl _, a, c⟩, fun i gs a b c j gs' h => by cases h; exact ⟨Nat.le_refl _, a, c⟩⟩).2
  obtain ⟨a, b, c, d⟩ := h1 i (List.replicate (2 * G) (-1)) hi (by rw [bound_bd]; exact Int.le_refl _) ⟨by simp, fun g _ => ⟨fun _ => Or.inl ⟨getD_replicate _ _, getD_replicate _ _⟩, fun h => h.elim⟩⟩ j gs h
  refine ⟨a, b, c, fun g hg' => ?_⟩
  have := (d g hg').1 (fun h => h)
  rw [bound_bd] at this
  exact this
theorem tryAt_fwd {C : CT} {G : Nat} (hg : C.gok G) (s : ByteArray) : GoesOn (tryAt C G (txOf s)) (runesOf s).length := fun i j gs hi h => by
  have := tryAt_fine hg s hi h
  exact ⟨this.1, this.2.1⟩
set_option maxRecDepth 100000

theorem MOrd.good {C : CT} {V : VS} {j : Nat} {G : Int} (h : MOrd C V j) (hq : AllQ G (built C).1) : MGood (sorted (built C).1 V) := by
  obtain ⟨R, h1, h2, h3⟩ := h.inv
  exact sorted_good h1 h2 (fun m hm => (hq m hm).2.2) (fun t ht => h.num t (Or.inr ht))
theorem MOrd.runs {C : CT} {V : VS} {j u : Nat} {G : Int} (h : MOrd C V j) (hok : C.ok) (hsz : C.sz ≤ 1000) (hg : C.gok G) (x : TX) (hu : V.num.getD j 0 = (u : Int)) {i : Nat} (hi : i ≤ x.l.length) (gs : List Int) : Runs (sorted (built C).1 V) x (u : Int) i gs ((semC x C (doneC, doneC)).2 i gs) := by
  obtain ⟨R, h1, h2, h3⟩ := h.inv
  have hx : XOk [zeroS].length (0, 0) := by unfold XOk; simp
  have g := (bPiece_bs C hok hsz).grow [zeroS] (0, 0)
  have h0 : (built C).1[0]? = some zeroS := by
    have := get_grow g.2 (j := 0) (by simp)
    exact this
  have hr := (((bPiece_ok x G C hok hsz hg).1.runs [zeroS] (0, 0) hx (built C).1 (fun _ _ _ => rfl) (doneC, doneC) i hi).2 (fun j hj1 hj2 gs => Runs.done 0 zeroS j gs h0 rfl)) gs
  have hr' : Runs (built C).1 x (built C).2.2 i gs ((semC x C (doneC, doneC)).2 i gs) := hr
  rw [h.first] at hr'
  obtain ⟨u', hu'⟩ := h.num j (Or.inl rfl)
  have e : V.num.getD j 0 = (u' : Int) := num_getD hu'
  have e2 : u' = u := by omega
  subst e2
  exact sorted_runs h1 h2 (fun t ht => h.num t (Or.inr ht)) hr' u' (by simpa using hu')
end Go.Proofs.YtnbfddjaonlmaaaGreatDoor
