/- Package whole's blocks: where the blocks of a text begin. Package whole's newRows: rows of words, each a part of one row. A region that draws its order, in a round of a loop over a function: it is walked as everywhere. -/
import Derived.Test.YtnbfddjaonlmaaaGreatDoorP32
import Derived.RangeFuncNested
import Derived.RangeFuncBox
import Derived.RangeFuncLeaves
import Derived.Sort.QuietIn
import Derived.Deep.OwnRows
import Derived.Test.YtnbfddjaonlmaaaGreatDoorP19
import Derived.OwnWalkIn
import Derived.OrdersIn
set_option linter.unusedVariables false
set_option maxRecDepth 100000
namespace Go.Proofs.YtnbfddjaonlmaaaGreatDoor
open Go.RowKit Go.Maps

/-- boundaries, by their numbers: where blocks begin -/
structure BgI (s : ByteArray) (ixs : List Nat) : Prop where
  pos : 1 ≤ ixs.length
  zero : ixs.getD 0 0 = 0
  step : ∀ k, k + 1 < ixs.length → ixs.getD k 0 ≤ ixs.getD (k + 1) 0 ∧ bd s (ixs.getD (k + 1) 0) ≤ bd s (ixs.getD k 0) + 4099
  far : 4096 * (ixs.length - 1) ≤ bd s (ixs.getD (ixs.length - 1) 0)
  in_ : ∀ k, ixs.getD k 0 ≤ (runesOf s).length
theorem getD_snoc (l : List Nat) (a k : Nat) : (l ++ [a]).getD k 0 = if k < l.length then l.getD k 0 else if k = l.length then a else 0 := by
  simp only [List.getD_eq_getElem?_getD]
  by_cases h : k < l.length
  · rw [if_pos h, List.getElem?_append_left h]
  · rw [if_neg h]
    by_cases e : k = l.length
    · subst e; simp
    · rw [if_neg e, List.getElem?_eq_none (by simp; omega)]; rfl
theorem BgI.start (s : ByteArray) : BgI s [0] := ⟨by simp, by simp, fun k h => by simp at h, by simp [bd_zero], fun k => by cases k <;> simp⟩
theorem BgI.push {s : ByteArray} {ixs : List Nat} (h : BgI s ixs) {i : Nat} (hi : i ≤ (runesOf s).length) (h1 : ixs.getD (ixs.length - 1) 0 ≤ i) (h2 : bd s i ≤ bd s (ixs.getD (ixs.length - 1) 0) + 4099) : (1 ≤ (ixs ++ [i]).length ∧ (ixs ++ [i]).getD 0 0 = 0 ∧ (∀ k, k + 1 < (ixs ++ [i]).length → (ixs ++ [i]).getD k 0 ≤ (ixs ++ [i]).getD (k + 1) 0 ∧ bd s ((ixs ++ [i]).getD (k + 1) 0) ≤ bd s ((ixs ++ [i]).getD k 0) + 4099) ∧ ∀ k, (ixs ++ [i]).getD k 0 ≤ (runesOf s).length) := by
  have hp := h.pos
  refine ⟨by simp, by rw [getD_snoc, if_pos (by omega)]; exact h.zero, fun k hk => ?_, fun k => ?_⟩
  · rw [List.length_append, List.length_singleton] at hk
    rw [getD_snoc, getD_snoc, if_pos (by omega)]
    by_cases e : k + 1 < ixs.length
    · rw [if_pos e]; exact h.step k e
    · rw [if_neg e, if_pos (by omega), show k = ixs.length - 1 by omega]; exact ⟨h1, h2⟩
  · rw [getD_snoc]
    split
    · exact h.in_ k
    · split
      · exact hi
      · omega
/-- where the blocks of a text begin, and its end -/
structure BgOk (s : ByteArray) (ixs : List Nat) : Prop where
  two : 2 ≤ ixs.length
  zero : ixs.getD 0 0 = 0
  last : ixs.getD (ixs.length - 1) 0 = (runesOf s).length
  step : ∀ k, k + 1 < ixs.length → ixs.getD k 0 ≤ ixs.getD (k + 1) 0 ∧ bd s (ixs.getD (k + 1) 0) ≤ bd s (ixs.getD k 0) + 4099
  few : ixs.length ≤ s.size / 4096 + 2
  in_ : ∀ k, ixs.getD k 0 ≤ (runesOf s).length
def bgL (s : ByteArray) (ixs : List Nat) : List Value := ixs.map fun i => Value.int .i64 (bd s i : Int)
theorem bgL_get {s : ByteArray} {ixs : List Nat} {k : Nat} (h : k < ixs.length) : (bgL s ixs)[k]? = some (.int .i64 (bd s (ixs.getD k 0) : Int)) := by
  unfold bgL
  simp [List.getD_eq_getElem?_getD, List.getElem?_eq_getElem h]
theorem BgI.done {s : ByteArray} {ixs : List Nat} (h : BgI s ixs) (h1 : ixs.getD (ixs.length - 1) 0 ≤ (runesOf s).length) (h2 : s.size ≤ bd s (ixs.getD (ixs.length - 1) 0) + 4099) : BgOk s (ixs ++ [(runesOf s).length]) := by
  have hb : bd s (runesOf s).length = s.size := bd_end (Nat.le_refl _)
  obtain ⟨a1, a2, a3, a4⟩ := h.push (Nat.le_refl _) h1 (by rw [hb]; exact h2)
  have hp := h.pos
  refine ⟨by simp; omega, a2, by rw [getD_snoc]; simp, a3, ?_, a4⟩
  have := h.far
  have := bd_le s (ixs.getD (ixs.length - 1) 0)
  rw [List.length_append, List.length_singleton]
  omega
/-- between two rounds of blocks; ip: where the iterator stands -/
structure BlR (w wr : World) (s : ByteArray) (v : Value) (ixs : List Nat) (i ip : Nat) : Prop where
  bg : BgI s ixs
  le : ixs.getD (ixs.length - 1) 0 ≤ i
  near : bd s i ≤ bd s (ixs.getD (ixs.length - 1) 0) + 4099
  i_le : i ≤ (runesOf s).length
  row : wr.ownsRow w.heap.size 3 1 v ixs.length (bgL s ixs)
  iter : wr.heap[w.heap.size + 1]? = some (.stringIter s ip)
  off : v.ownBlock ≠ some (w.heap.size + 1)
  kept : Kept Nil w wr
  size : w.heap.size + 2 ≤ wr.heap.size
theorem BlR.few {w wr : World} {s : ByteArray} {v : Value} {ixs : List Nat} {i ip : Nat} (h : BlR w wr s v ixs i ip) : ixs.length ≤ s.size / 4096 + 1 := by
  have := h.bg.far
  have := bd_le s (ixs.getD (ixs.length - 1) 0)
  have := h.bg.pos
  omega
/-- the iterator goes on -/
theorem BlR.moved {w wr : World} {s : ByteArray} {v : Value} {ixs : List Nat} {i ip : Nat} (h : BlR w wr s v ixs i ip) (ip' : Nat) : BlR w (wr.iterAt (w.heap.size + 1) s ip') s v ixs i ip' := by
  have k : Kept (fun i => i = w.heap.size + 1) wr (wr.iterAt (w.heap.size + 1) s ip') := (Kept.refl (fun i => i = w.heap.size + 1) wr).iterAt (k := w.heap.size + 1) (Or.inl rfl) s _
  exact ⟨h.bg, h.le, h.near, h.i_le, ownsRow_kept h.row k (fun b hb hx => h.off (by rw [hb, hx])), Lib.iterAt_heap wr _ s _ _ h.iter, h.off, h.kept.trans' k (fun i hi he => by omega), by rw [Lib.iterAt_size]; exact h.size⟩
theorem BlR.next {w wr : World} {s : ByteArray} {v : Value} {ixs : List Nat} {i ip : Nat} (h : BlR w wr s v ixs i ip) (hi : i < (runesOf s).length) (hb : bd s i < bd s (ixs.getD (ixs.length - 1) 0) + 4096) : BlR w wr s v ixs (i + 1) ip := by
  have hst := bd_step hi
  exact ⟨h.bg, by have := h.le; omega, by omega, hi, h.row, h.iter, h.off, h.kept, h.size⟩
/-- one more beginning -/
theorem BlR.pushed {w wr W w7 : World} {s : ByteArray} {v v' : Value} {ixs : List Nat} {i ip : Nat} (h : BlR w wr s v ixs i ip) (hi : i < (runesOf s).length) (hb : bd s (ixs.getD (ixs.length - 1) 0) + 4096 ≤ bd s i) (k0 : Kept Nil wr W)
    (hown : w7.ownsRow w.heap.size 3 1 v' (ixs.length + 1) (bgL s ixs ++ [.int .i64 (bd s i : Int)])) (hg : W.grownBy w7 v.ownBlock) (hloc : v'.ownBlock = v.ownBlock ∨ v'.ownBlock = some W.heap.size) : BlR w w7 s v' (ixs ++ [i]) (i + 1) ip := by
  have k7 : Kept (fun j => v.ownBlock = some j) wr w7 := (k0.mono (fun i hx => hx.elim)).grown hg (fun j hj => Or.inl hj)
  obtain ⟨a1, a2, a3, a4⟩ := h.bg.push h.i_le h.le h.near
  have hl : (ixs ++ [i]).getD ((ixs ++ [i]).length - 1) 0 = i := by rw [getD_snoc]; simp
  have hfar := h.bg.far
  have hpos := h.bg.pos
  have hst := bd_step hi
  refine ⟨⟨a1, a2, a3, by rw [hl, List.length_append, List.length_singleton]; omega, a4⟩, by rw [hl]; omega, by rw [hl]; omega, hi, ?_, (k7.block _ (by have := h.size; omega) h.off).trans h.iter, ?_, h.kept.trans' k7 (fun j hj he => by have := (ownsRow_block h.row he).1; omega), Nat.le_trans h.size k7.size⟩
  · rw [List.length_append]
    have : bgL s (ixs ++ [i]) = bgL s ixs ++ [.int .i64 (bd s i : Int)] := by simp [bgL]
    rw [this]
    exact hown
  · rcases hloc with e | e
    · rw [e]; exact h.off
    · rw [e]
      intro hx
      have := Option.some.inj hx
      have := h.size
      have := k0.size
      omega
theorem BlR.done {w wr W w7 : World} {s : ByteArray} {v v' : Value} {ixs : List Nat} {ip : Nat} (h : BlR w wr s v ixs (runesOf s).length ip) (k0 : Kept Nil wr W)
    (hown : w7.ownsRow w.heap.size 3 1 v' (ixs.length + 1) (bgL s ixs ++ [.int .i64 (s.size : Int)])) (hg : W.grownBy w7 v.ownBlock) : Kept Nil w w7 ∧ w7.ownsRow w.heap.size 3 1 v' (ixs ++ [(runesOf s).length]).length (bgL s (ixs ++ [(runesOf s).length])) ∧ BgOk s (ixs ++ [(runesOf s).length]) := by
  have k7 : Kept (fun j => v.ownBlock = some j) wr w7 := (k0.mono (fun i hx => hx.elim)).grown hg (fun j hj => Or.inl hj)
  have hb : bd s (runesOf s).length = s.size := bd_end (Nat.le_refl _)
  refine ⟨h.kept.trans' k7 (fun j hj he => by have := (ownsRow_block h.row he).1; omega), ?_, h.bg.done h.le (by rw [← hb]; exact h.near)⟩
  have : bgL s (ixs ++ [(runesOf s).length]) = bgL s ixs ++ [.int .i64 (s.size : Int)] := by simp [bgL, hb]
  rw [this, List.length_append]
  exact hown

set_option maxHeartbeats 4000000 in
theorem blocks_rd (s : ByteArray) (w : World) (hs : s.size ≤ 1000000000) :
    Calls Tryz.prog 55 #[.string s] w fun e w' => ∃ (v : Value) (ixs : List Nat), e = .returned v ∧ Kept Nil w w' ∧ w'.ownsRow w.heap.size 3 1 v ixs.length (bgL s ixs) ∧ BgOk s ixs := by
  obtain ⟨i0, hi0, hz0, hz1, hz2⟩ := info_parts Tryz.infoInt0
  have START : Hid (BlR w ((w.alloc (.cells #[.int .i64 0] 3)).iter s 0) s (.slice (some ⟨w.heap.size, 0, none⟩) 1 1) [0] 0 (bd s 0)) := by
    refine ⟨BgI.start s, Nat.le_refl _, by simp, Nat.zero_le _, ?_, ?_, ?_, ((Kept.refl Nil w).alloc _).alloc _, by simp [World.iter]⟩
    · refine ⟨by simp [bgL], Or.inr ⟨w.heap.size, 1, #[.int .i64 0], rfl, Nat.le_refl _, ?_, Nat.le_refl _, by unfold maxLen; omega, by simp, by simp [bgL, bd_zero]⟩⟩
      exact (Blk.new w #[.int .i64 0] 3).alloc _
    · have := World.iter_heap (w.alloc (.cells #[.int .i64 0] 3)) s 0
      rw [size_alloc1] at this
      rw [bd_zero]
      exact this
    · intro hx; have : w.heap.size = w.heap.size + 1 := Option.some.inj hx; omega
  go_enter Tryz.func55, Tryz.ntmps55
  go_wp2_with fail
  go_loopg [3] (runesOf s).length (fun kk v wr => ∃ (i : Nat) (ixs : List Nat), Hid (BlR w wr s v ixs i (bd s i)) ∧ kk = (runesOf s).length - i)
  case atStart => exact ⟨0, [0], START, rfl⟩
  case round =>
    obtain ⟨i, ixs, HB, hkk⟩ := hrel
    clear START
    have hi := HB.out.i_le
    have hfew := HB.out.few
    have hpos := HB.out.bg.pos
    by_cases hlt : i < (runesOf s).length
    · have hsz := bd_size hlt
      have hn := fun ty => Lib.run_next_any_at (P := Tryz.prog) wr (w.heap.size + 1) s (bd s i) ty HB.out.iter hsz
      rw [← bd_next hlt] at hn
      have HB1 := hid (HB.out.moved (bd s (i + 1)))
      obtain ⟨w1, hw1⟩ : ∃ w1, w1 = wr.iterAt (w.heap.size + 1) s (bd s (i + 1)) := ⟨_, rfl⟩
      rw [← hw1] at hn HB1
      clear hw1 HB
      generalize ((Utf8.decode s (bd s i)).1 : Int) = cc at hn
      obtain ⟨g, c, hv, l1, l2, l3, l4, l5⟩ := row_get HB1.out.row (by omega)
      subst hv
      obtain ⟨n, hn1⟩ : ∃ n, ixs.length = n + 1 := ⟨ixs.length - 1, by omega⟩
      have cl : w1.cell? ⟨g, n, none⟩ = some (.int .i64 (bd s (ixs.getD n 0) : Int)) := by rw [l4 n (by omega), bgL_get (by omega)]
      have hnn : ixs.length - 1 = n := by omega
      have hbl := bd_le s (ixs.getD n 0)
      have PU := hid fun (h : bd s (ixs.getD n 0) + 4096 ≤ bd s i) {W w7 : World} {v' : Value} => HB1.out.pushed (W := W) (w7 := w7) (v' := v') hlt (by rw [hnn]; exact h)
      have NX := hid fun (h : bd s i < bd s (ixs.getD n 0) + 4096) => HB1.out.next hlt (by rw [hnn]; exact h)
      have HROW := hid HB1.out.row
      have HSZ := hid HB1.out.size
      clear l4 l5 hnn
      rw [hn1] at HROW PU NX hfew ⊢
      have HN1 := hid hn1
      clear hn1 hpos l3
      generalize hlb : bd s (ixs.getD n 0) = lb at *
      clear hlb
      by_cases hge : lb + 4096 ≤ bd s i
      · have hge2 : (lb : Int) + 4096 ≤ (bd s i : Int) := by omega
        go_wp2_with (at_builtin; refine wpList_append_own_at _ rfl _ _ 22 rfl w.heap.size 3 i0 _ 1 8 Tryz.underlying22 hi0 hz0 hz1 hz2 rfl (by decide) _ _ _ rfl (HROW.out.alloc _) ⟨w1.heap.size, 0, none⟩ 1 1 [.int .i64 (bd s i : Int)] rfl rfl ?c1 ?c2 ?c3 ?c4 ?c5 ?_)
        case c1 => exact natL_new _ _
        case c2 => exact int_one _
        case c3 => unfold maxLen; omega
        case c4 => omega
        case c5 => have := HSZ.out; simp; omega
        intro v' w7 hown' hgrow hnil hloc
        obtain ⟨ao', c', rfl⟩ := ownsRow_slice hown'
        have FIN := hid (PU.out hge ((Kept.refl Nil w1).alloc _) hown' hgrow (by simpa using hloc))
        clear hown' hgrow hnil hloc
        go_wp2_with fail
        go_roundg ((runesOf s).length - (i + 1))
        case measure => omega
        case rel => exact ⟨i + 1, _, FIN, rfl⟩
      · have hge2 : ¬ (lb : Int) + 4096 ≤ (bd s i : Int) := by omega
        have FIN := hid (NX.out (by omega))
        go_wp2_with fail
        go_roundg ((runesOf s).length - (i + 1))
        case measure => omega
        case rel => exact ⟨i + 1, _, FIN, rfl⟩
    · have hi' : i = (runesOf s).length := by omega
      subst hi'
      have hend : bd s (runesOf s).length = s.size := bd_end (Nat.le_refl _)
      have hn := fun ty => Lib.run_next_end_at (P := Tryz.prog) wr (w.heap.size + 1) s (bd s (runesOf s).length) ty HB.out.iter (by omega)
      obtain ⟨ao, c, rfl⟩ := ownsRow_slice HB.out.row
      have HSZ := hid HB.out.size
      have FI := hid fun (W w7 : World) (v' : Value) => HB.out.done (W := W) (w7 := w7) (v' := v')
      have HROW := hid HB.out.row
      clear hend
      go_wp2_with (at_builtin; refine wpList_append_own_at _ rfl _ _ 22 rfl w.heap.size 3 i0 _ 1 8 Tryz.underlying22 hi0 hz0 hz1 hz2 rfl (by decide) _ _ _ rfl (HROW.out.alloc _) ⟨wr.heap.size, 0, none⟩ 1 1 [.int .i64 (s.size : Int)] rfl rfl ?c1 ?c2 ?c3 ?c4 ?c5 ?_)
      case c1 => exact natL_new _ _
      case c2 => exact int_one _
      case c3 => unfold maxLen; omega
      case c4 => omega
      case c5 => have := HSZ.out; simp; omega
      intro v' w7 hown' hgrow hnil hloc
      obtain ⟨ao', c', rfl⟩ := ownsRow_slice hown'
      have FIN := hid (FI.out _ _ _ ((Kept.refl Nil wr).alloc _) hown' hgrow)
      clear hown' hgrow hnil hloc
      go_wp2_with fail
      go_ret
      exact ⟨_, _, rfl, FIN.out.1, FIN.out.2.1, FIN.out.2.2⟩
attribute [local go_sem] Oper.semAt_some

/-- two blocks stay as they are -/
def Kp2 (a b : Nat) (W W' : World) : Prop := W'.heap[a]? = W.heap[a]? ∧ W'.heap[b]? = W.heap[b]?
theorem Kp2.refl (a b : Nat) (W : World) : Kp2 a b W W := ⟨rfl, rfl⟩
theorem Kp2.trans {a b : Nat} {A B C : World} (h : Kp2 a b A B) (k : Kp2 a b B C) : Kp2 a b A C := ⟨k.1.trans h.1, k.2.trans h.2⟩
theorem Kp2.putObj {a b : Nat} {w : World} (ha : a < w.heap.size) (hb : b < w.heap.size) (W : World) (l : Nat) (o o' : Obj) (hl : w.heap.size ≤ l) (h : W.heap[l]? = some o) (_ : o.isCells = false) (_ : o.isWalk = false) : Kp2 a b W (W.putObj l o') :=
  ⟨World.putObj_heap_other (by omega), World.putObj_heap_other (by omega)⟩
theorem Kp2.cell {a b : Nat} {W W' : World} (h : Kp2 a b W W') : W'.cell? ⟨a, 0, none⟩ = W.cell? ⟨a, 0, none⟩ ∧ W'.cell? ⟨b, 0, none⟩ = W.cell? ⟨b, 0, none⟩ := ⟨World.cell?_of_block (w := W) h.1, World.cell?_of_block (w := W) h.2⟩
def rowV (WB L r : Nat) : Value := .slice (some ⟨WB, r * L, none⟩) L L
set_option maxHeartbeats 4000000 in
theorem chunk1_in (n : Nat) (hn : 1 ≤ n) (l Bs Bn WB N L NL : Nat) (hNL : NL = N * L) (hL : 0 < L) (hreach : NL ≤ 10000000) (J Jx : List Nat → World → Prop)
    (hY : ∀ pre x W, J pre W → pre.length < N → YieldAt Fence.wide (n - 1) Tryz.prog l #[rowV WB L x] W fun e W' =>
      (e = .returned (.bool true) ∧ J (pre ++ [x]) W' ∧ Kp2 Bs Bn W W') ∨ (e = .returned (.bool false) ∧ Jx (pre ++ [x]) W'))
    (W : World) (c1 : W.cell? ⟨Bs, 0, none⟩ = some (.slice (some ⟨WB, 0, none⟩) NL NL)) (c2 : W.cell? ⟨Bn, 0, none⟩ = some (.int .i64 (L : Int))) (hJ : AbidesFrom W.heap.size J) (h0 : J [] W) :
    CallsIn Fence.wide n Tryz.prog 89 #[.func (.yield l) #[] #[], .pointer (some ⟨Bs, 0, none⟩), .pointer (some ⟨Bn, 0, none⟩)] W fun e W' => (∃ v, e = .returned v) ∧
      ((∃ ys, ys = List.range N ∧ J ys W') ∨ (∃ pre, pre <+: List.range N ∧ Jx pre W')) := by
  refine callsIn_of_wp Tryz.func89 rfl trivial ?_ rfl
  simp only [Tryz.ntmps89, List.size_toArray, List.length_cons, List.length_nil, Nat.reduceAdd, Nat.reduceSub, Array.replicate_succ, Array.replicate_zero, List.push_toArray, List.append_toArray, List.nil_append, List.cons_append]
  have HNL := hid hNL
  clear hNL
  gi_wp2
  gi_loopw [4] (fun i wr => ∃ k p : Nat, k ≤ N ∧ Hid (p = k * L) ∧ i = .int .i64 (p : Int) ∧ Hid (J (List.range k) wr) ∧ Hid (Kp2 Bs Bn W wr))
    (fun i _ => NL - (intOf i).toNat)
  case atStart => exact ⟨0, 0, Nat.zero_le _, (by show _ = _; omega), rfl, h0, Kp2.refl _ _ _⟩
  case round =>
    obtain ⟨k, p, hk, HP, rfl, HJ2, HB⟩ := hrel
    have d1 : wr.cell? ⟨Bs, 0, none⟩ = some (.slice (some ⟨WB, 0, none⟩) NL NL) := HB.out.cell.1.trans c1
    have d2 : wr.cell? ⟨Bn, 0, none⟩ = some (.int .i64 (L : Int)) := HB.out.cell.2.trans c2
    by_cases hlt : k < N
    · have hpL : p + L ≤ NL := by
        have := Nat.mul_le_mul_right L (show k + 1 ≤ N by omega)
        rw [HP.out, HNL.out]
        rw [Nat.add_mul] at this
        omega
      gi_wp2
      gi_big_quiet (fail)
      have hmin : min (L : Int) ((NL - p : Nat) : Int) = (L : Int) := by omega
      rw [hmin]
      clear hmin
      have hJa : J (List.range k) (wr.drewN nq) := hJ _ wr _ none HJ2.out ⟨rfl, rfl, rfl, Nat.le_refl _, fun _ _ _ => rfl⟩ (fun r e => by cases e)
      obtain ⟨fn, tmps, assign, body, hy, hR⟩ := hY _ k _ hJa (by simp; omega)
      have HR := hid hR
      clear hR
      have hp' : k * L = p := HP.out.symm
      simp only [rowV] at hy
      rw [hp'] at hy
      clear hp' hJa
      have e1 : (wr.drewN nq).cell? ⟨Bs, 0, none⟩ = some (.slice (some ⟨WB, 0, none⟩) NL NL) := d1
      gi_wp2
      refine HR.out.mono ?_
      rintro e W3 (⟨rfl, hJ3, hk3⟩ | ⟨rfl, hJx3⟩)
      · have e2 : W3.cell? ⟨Bn, 0, none⟩ = some (.int .i64 (L : Int)) := hk3.cell.2.trans d2
        have HJ3 := hid hJ3
        have HK3 := hid hk3
        clear hJ3 hk3 e1 d1 d2 hy
        gi_wp2
        go_roundw
        case rel => exact ⟨k + 1, p + L, by omega, (by show _ = _; rw [HP.out, Nat.add_mul]; omega), by simp, (by rw [List.range_succ]; exact HJ3), HB.out.trans ((show Kp2 Bs Bn wr (wr.drewN nq) from ⟨rfl, rfl⟩).trans HK3.out)⟩
        case measure => simp [intOf]; omega
      · gi_wp2
        refine bodyPost_ret (results_none rfl _ _ _) rfl ?_
        refine ⟨⟨_, rfl⟩, .inr ⟨_, ?_, hJx3⟩⟩
        rw [← List.range_succ]
        have : List.range (k + 1) = (List.range N).take (k + 1) := by rw [List.take_range]; congr 1; omega
        rw [this]
        exact List.take_prefix _ _
    · have hp' : p = NL := by rw [HP.out, HNL.out, show k = N by omega]
      have FIN : Hid (J (List.range N) wr) := by rw [← show k = N by omega]; exact HJ2
      subst hp'
      gi_wp2
      go_end0
      exact ⟨⟨_, rfl⟩, .inl ⟨_, rfl, FIN.out⟩⟩

theorem chunk_stops (n : Nat) (hn : 1 ≤ n) (Bs Bn WB N L NL : Nat) (hNL : NL = N * L) (hL : 0 < L) (hreach : NL ≤ 10000000) (w : World) (hBs : Bs < w.heap.size) (hBn : Bn < w.heap.size)
    (c1 : w.cell? ⟨Bs, 0, none⟩ = some (.slice (some ⟨WB, 0, none⟩) NL NL)) (c2 : w.cell? ⟨Bn, 0, none⟩ = some (.int .i64 (L : Int))) :
    SeqStopsK Fence.wide n Tryz.prog 89 #[.pointer (some ⟨Bs, 0, none⟩), .pointer (some ⟨Bn, 0, none⟩)] (fun x : Nat => #[rowV WB L x]) (Kp2 Bs Bn) (fun ys => ys = List.range N) (fun pre => pre <+: List.range N) N w := fun l J Jx W hW hJ _ hY h0 =>
  chunk1_in n hn l Bs Bn WB N L NL hNL hL hreach J Jx hY W ((hW.cell (p := ⟨Bs, 0, none⟩) hBs).trans c1) ((hW.cell (p := ⟨Bn, 0, none⟩) hBn).trans c2) hJ h0
theorem chunk_rd (w : World) (a : Option Addr) (NL c L : Nat) (hL : 0 < L) (hL2 : L ≤ 10000000) : Calls Tryz.prog 70 #[.slice a NL c, .int .i64 (L : Int)] w fun e w' => e = .returned (.func (.func 89) #[] #[.pointer (some ⟨w.heap.size, 0, none⟩), .pointer (some ⟨w.heap.size + 1, 0, none⟩)]) ∧ w' = (w.alloc (.cells #[.slice a NL c] 121)).alloc (.cells #[.int .i64 (L : Int)] 3) := by
  have c2 : ((w.alloc (.cells #[.slice a NL c] 121)).alloc (.cells #[.int .i64 (L : Int)] 3)).cell? ⟨w.heap.size + 1, 0, none⟩ = some (.int .i64 (L : Int)) := by
    have := (Blk.new (w.alloc (.cells #[.slice a NL c] 121)) #[.int .i64 (L : Int)] 3).cell 0
    rw [size_alloc1] at this
    exact this
  go_enter Tryz.func70, Tryz.ntmps70
  go_wp2_with fail
  go_ret
  exact ⟨rfl, rfl⟩
theorem Tryz.infoU64 : (Tryz.prog.info? 132).map (fun i => (i.zero, i.size, i.bytes)) = some (some (.int .u64 0), 1, 8) := by kernel_rfl
theorem Tryz.infoRow : (Tryz.prog.info? 121).map (fun i => (i.zero, i.size, i.bytes)) = some (some (.slice none 0 0), 1, 24) := by kernel_rfl
theorem made_words (n : Nat) : madeCells #[.int .u64 0] n = (u64L (List.replicate n 0)).toArray := by
  unfold madeCells u64L
  refine Array.ext (by simp) fun k h1 h2 => ?_
  simp [Nat.mod_one]
theorem boxed_more {w2 W w1 : World} {B : Nat} {t e : TypeId} {v v' : Value} {k m : Nat} {xs ys : List Value} {tmp : Obj} (hv : Boxed W B t v) (hrow : W.ownsRow w2.heap.size e 1 v k xs) (hB : Kept (fun i => i = B) w2 W) (hBl : B < w2.heap.size) (hown' : w1.ownsRow w2.heap.size e 1 v' m ys) (hgrow : (W.alloc tmp).grownBy w1 v.ownBlock) :
    Boxed w1 B t v ∧ Boxed (w1.setCell ⟨B, 0, none⟩ v') B t v' ∧ (w1.setCell ⟨B, 0, none⟩ v').ownsRow w2.heap.size e 1 v' m ys ∧ KeepsOthers W (w1.setCell ⟨B, 0, none⟩ v') ∧ Kept (fun i => i = B) w2 (w1.setCell ⟨B, 0, none⟩ v') ∧ (∀ j, j < w2.heap.size → j ≠ B → (w1.setCell ⟨B, 0, none⟩ v').heap[j]? = W.heap[j]?) := by
  have hg : ∀ i, v.ownBlock = some i → w2.heap.size ≤ i := fun i hi => (ownsRow_block hrow hi).1
  have hv1 : Boxed w1 B t v := (hv.alloc tmp).kept hgrow (fun e => by have := hg B e.symm; omega)
  have k1 : Kept (fun i => v.ownBlock = some i) W w1 := ((Kept.refl _ W).alloc tmp).grown hgrow (fun j hj => Or.inl hj)
  have k2 : Kept (fun i => i = B) w1 (w1.setCell ⟨B, 0, none⟩ v') := (Kept.refl (fun i => i = B) w1).setCell (p := ⟨B, 0, none⟩) (Or.inl rfl) v'
  have hs := hB.size
  have hs1 := k1.size
  refine ⟨hv1, hv1.set v', ownsRow_kept hown' k2 (fun b hb e => by have := (ownsRow_block hown' hb).1; omega), ?_, (hB.trans' k1 (fun i hi he => by have := hg i he; omega)).trans k2, fun j hj hjB => (k2.block j (by omega) hjB).trans (k1.block j (by omega) (fun e => by have := hg j e; omega))⟩
  refine ((KeepsOthers.alloc W tmp).trans (KeepsOthers.of_grownBy hgrow fun j o ej hj => ?_)).trans (KeepsOthers.setCell _ _ _)
  rcases (hrow.alloc tmp).2 with ⟨rfl, _⟩ | ⟨g, cap, cur, rfl, _, hgb, _⟩
  · simp [Value.ownBlock] at ej
  · obtain rfl : g = j := by simpa [Value.ownBlock] using ej
    rw [hgb] at hj; cases hj; rfl
theorem ownsRow_lower {w : World} {b b' e size n : Nat} {v : Value} {xs : List Value} (h : w.ownsRow b e size v n xs) (hb : b' ≤ b) : w.ownsRow b' e size v n xs := by
  refine ⟨h.1, ?_⟩
  rcases h.2 with h2 | ⟨g, cap, cur, h3, h4, h5⟩
  · exact Or.inl h2
  · exact Or.inr ⟨g, cap, cur, h3, Nat.le_trans hb h4, h5⟩
/-- rows: the value v is a row of N rows, each of L words of the block WB -/
def RowsAt (w : World) (base : Nat) (v : Value) (N L WB : Nat) : Prop := w.ownsRow base 121 1 v N ((List.range N).map (rowV WB L))

set_option maxHeartbeats 4000000 in
theorem newRows_in (n : Nat) (hn : 3 ≤ n) (N st L NL : Nat) (hL : L = st / 64 + 1) (hNL : NL = N * L) (hN : N ≤ 100000) (hst : st ≤ 4001) (hreach : NL ≤ 10000000) (w : World) :
    CallsIn Fence.wide n Tryz.prog 56 #[.int .i64 (N : Int), .int .i64 (st : Int)] w fun e W' => ∃ v, e = .returned v ∧ RowsAt W' (w.heap.size + 1) v N L w.heap.size ∧ Blk W' w.heap.size (u64L (List.replicate NL 0)).toArray 132 ∧ Below w.heap.size w W' := by
  have h1 : 1 ≤ n := by omega
  obtain ⟨i0, hi, hz0, hz1, hz2⟩ := info_parts Tryz.infoRow
  have hdiv : (st : Int) / 64 + 1 = (L : Int) := by omega
  have hmul : (N : Int) * (L : Int) = (NL : Int) := by rw [hNL]; simp
  have hmk := fun W => Go.run_make_row' (P := Tryz.prog) 121 132 (.int .u64 0) 8 Tryz.underlying121 Tryz.infoU64 rfl .i64 .i64 NL (by omega) (by omega) W
  have HNL := hid hNL
  have HL := hid hL
  have hLpos : 0 < L := by omega
  clear hNL hL
  refine callsIn_of_wp_marks Tryz.func56 rfl trivial ?_ rfl
  simp only [Tryz.ntmps56, List.size_toArray, List.length_cons, List.length_nil, Nat.reduceAdd, Nat.reduceSub, Array.replicate_succ, Array.replicate_zero, List.push_toArray, List.append_toArray, List.nil_append, List.cons_append]
  gi_wp2
  refine ⟨trivial, (callsIn_wide.2 (chunk_rd _ (some ⟨w.heap.size, 0, none⟩) NL NL L hLpos (by have := HL.out; omega))).mono ?_⟩
  rintro e w2 ⟨rfl, hw2⟩
  have hsz2 : w2.heap.size = w.heap.size + 4 := by rw [hw2]; simp
  have hB2 : Below w.heap.size w w2 := by
    rw [hw2]
    exact ((((Below.refl _ w).alloc (Nat.le_refl _) _).alloc (by simp) _).alloc (by simp; omega) _).alloc (by simp; omega) _
  have bW : Blk w2 w.heap.size (u64L (List.replicate NL 0)).toArray 132 := by
    rw [hw2, ← made_words]
    exact (((Blk.new w _ _).alloc _).alloc _).alloc _
  have bO : Boxed w2 (w.heap.size + 1) 116 (.slice none 0 0) := by
    rw [hw2]
    have := ((Boxed.new (w.alloc (.cells (madeCells #[.int .u64 0] NL) 132)) 116 (.slice none 0 0)).alloc (.cells #[.slice (some ⟨w.heap.size, 0, none⟩) NL NL] 121)).alloc (.cells #[.int .i64 (L : Int)] 3)
    simpa using this
  have c1 : w2.cell? ⟨w.heap.size + 1 + 1, 0, none⟩ = some (.slice (some ⟨w.heap.size, 0, none⟩) NL NL) := by
    rw [hw2]
    have := ((Blk.new ((w.alloc (.cells (madeCells #[.int .u64 0] NL) 132)).alloc (.cells #[.slice none 0 0] 116)) #[.slice (some ⟨w.heap.size, 0, none⟩) NL NL] 121).alloc (.cells #[.int .i64 (L : Int)] 3)).cell 0
    simpa using this
  have c2 : w2.cell? ⟨w.heap.size + 1 + 1 + 1, 0, none⟩ = some (.int .i64 (L : Int)) := by
    rw [hw2]
    have := (Blk.new (((w.alloc (.cells (madeCells #[.int .u64 0] NL) 132)).alloc (.cells #[.slice none 0 0] 116)).alloc (.cells #[.slice (some ⟨w.heap.size, 0, none⟩) NL NL] 121)) #[.int .i64 (L : Int)] 3).cell 0
    simpa using this
  have hs1 : ((w.alloc (.cells (madeCells #[.int .u64 0] NL) 132)).alloc (.cells #[.slice none 0 0] 116)).heap.size = w.heap.size + 1 + 1 := by simp
  rw [hs1]
  clear hw2 hs1 hmk
  gi_wp2
  refine wpIn_rangeFunc_ownH rfl h1 (gf := 89) (lb := #[.pointer (some ⟨w.heap.size + 1 + 1, 0, none⟩), .pointer (some ⟨w.heap.size + 1 + 1 + 1, 0, none⟩)]) rfl trivial (enters_of Tryz.func89 (by kernel_rfl) rfl)
    (chunk_stops (n - 1) (by omega) (w.heap.size + 1 + 1) (w.heap.size + 1 + 1 + 1) w.heap.size N L NL HNL.out hLpos hreach w2 (by omega) (by omega) c1 c2) Kp2.trans (Kp2.putObj (by omega) (by omega)) (Below.refl _ _) (fun _ => rfl)
    (fun pre W => (∃ v, Boxed W (w.heap.size + 1) 116 v ∧ W.ownsRow w2.heap.size 121 1 v pre.length (pre.map (rowV w.heap.size L)) ∧ True) ∧ Kept (fun i => i = w.heap.size + 1) w2 W)
    (fun _ _ _ => False)
    (OwnFrom.and (Own.from (holdsRow_own w2.heap.size (w.heap.size + 1) 116 121 1 (fun (pre : List Nat) => pre.length) (fun pre => pre.map (rowV w.heap.size L)) (fun pre v => True)) _) (fun s W W' row h hg hr => h.grown hg (fun k e => Or.inr (hr k e).1)))
    (fun _ _ _ _ _ hs _ _ => hs)
    ⟨⟨_, bO, World.ownsRow_nil _ _ _ _, trivial⟩, Kept.refl _ _⟩
    (fun x a' W => a' = { tmps := #[.int .i64 (N : Int), .int .i64 (st : Int), undef, undef, .slice none 0 0, .int .i64 (L : Int), .slice (some ⟨w.heap.size, 0, none⟩) NL NL, .pointer (some ⟨w.heap.size + 1, 0, none⟩), rowV w.heap.size L x, .int .i64 (st : Int), .int .i64 ((st : Int) / 64), .int .i64 (L : Int), .int .i64 (N : Int), .int .i64 (L : Int), .int .i64 (NL : Int), .slice (some ⟨w.heap.size, 0, none⟩) NL NL, .slice (some ⟨w.heap.size, 0, none⟩) NL NL, .int .i64 (L : Int), .func (.func 89) #[] #[.pointer (some ⟨w.heap.size + 1 + 1, 0, none⟩), .pointer (some ⟨w.heap.size + 1 + 1 + 1, 0, none⟩)], rowV w.heap.size L x, undef, undef, undef, undef, undef], defers := [] })
    (fun x a' _ X Y row hs hg hr => hs)
    ?assign ?body ?done ?stop
  case assign =>
    rintro l pre x W K ⟨⟨v, hv, hrow, _⟩, hB⟩ hK
    gi_wp2
    exact hK _ _ ((KeepsOthers.refl _).from _) (Kp2.refl _ _ _) ⟨⟨v, hv, hrow, trivial⟩, hB⟩ rfl
  case body =>
    rintro l pre x a' W hl ⟨r, hr⟩ ⟨⟨v, hv, hrow, _⟩, hB⟩ rfl hlt
    have hc := hv.cell
    have hsW := hB.size
    simp only [rowV]
    gi_wp2_with (gi_at_builtin; refine wpListIn_append_own _ rfl _ _ 116 rfl w2.heap.size 121 i0 (.slice none 0 0) 1 24 Tryz.underlying116 hi hz0 hz1 hz2 rfl (by decide) _ _ _ rfl (hrow.alloc _) ⟨W.heap.size, 0, none⟩ 1 1 [.slice (some ⟨w.heap.size, x * L, none⟩) L L] rfl rfl (fun j u h => new32 _ _ _ j u h) (by simp [Value.oneCell']) (by unfold maxLen; omega) (by omega) (by simp; omega) ?_; intro v' w1 hown' hgrow _; obtain ⟨g', cap', rfl⟩ := ownsRow_succ hown'; obtain ⟨hv1, hv2, hr2, hk2, hb2, hj2⟩ := boxed_more hv hrow hB (by omega) hown' hgrow; have hc1 := hv1.cell; have hf1 := hv1.frozen)
    refine ⟨hk2.from _, ⟨hj2 _ (by omega) (by omega), hj2 _ (by omega) (by omega)⟩, ⟨⟨_, hv2, ?_, trivial⟩, hb2⟩⟩
    simpa [rowV] using hr2
  case done =>
    rintro D ys W hD rfl ⟨⟨v, hv, hrow, hnil⟩, hB⟩ hK
    have hc := hv.cell
    gi_wp2
    refine ⟨by simp, .inl ⟨_, _, rfl, run_takeDeferred hK, ?_⟩⟩
    have hsW := hB.size
    refine ⟨_, results_tmp rfl _ _ _, v, rfl, ?_, ?_, ?_⟩
    · have := ownsRow_putObj hrow (.deferred none) hK rfl
      rw [List.length_range] at this
      exact ownsRow_lower this (by omega)
    · have h2 : Blk W w.heap.size (u64L (List.replicate NL 0)).toArray 132 := bW.kept hB (by omega)
      exact (World.putObj_heap_other (by omega)).trans h2
    · exact (hB2.trans (hB.below (by omega) (fun k hk e => by omega))).trans (belowK_b (w := w) (Nat.le_refl _) W D _ _ (by omega) hK rfl rfl)
  case stop =>
    rintro D c pre W _ _ h _
    exact h.elim

theorem newRows_rd (N st L : Nat) (hL : L = st / 64 + 1) (hN : N ≤ 100000) (hst : st ≤ 4001) (w : World) :
    Calls Tryz.prog 56 #[.int .i64 (N : Int), .int .i64 (st : Int)] w fun e W' => ∃ v, e = .returned v ∧ RowsAt W' (w.heap.size + 1) v N L w.heap.size ∧ Blk W' w.heap.size (u64L (List.replicate (N * L) 0)).toArray 132 ∧ Kept Nil w W' := by
  have hm : N * L ≤ 100000 * 63 := Nat.mul_le_mul hN (by omega)
  refine (callsIn_wide.1 (newRows_in 6 (by omega) N st L (N * L) hL rfl hN hst (by omega) w)).mono ?_
  rintro e W' ⟨v, h1, h2, h3, h4⟩
  exact ⟨v, h1, h2, h3, Below.kept h4 rfl⟩
end Go.Proofs.YtnbfddjaonlmaaaGreatDoor
namespace Go.Proofs.YtnbfddjaonlmaaaGreatDoor

/-- no fence: in a round or not -/
def FR (ro : Option Nat) : Fence := { Fence.wide with round := ro }
def noDefer (ops : Array Oper) : Bool := ops.all fun o => match o.op with | .defer _ => false | _ => true
theorem noDefer_spec {ops : Array Oper} (h : noDefer ops = true) {i : Nat} {o : Oper} (ho : ops[i]? = some o) : ∀ c, o.op ≠ .defer c := by
  intro c hc
  unfold noDefer at h
  rw [Array.all_eq_true] at h
  obtain ⟨hlt, e⟩ := Array.getElem?_eq_some_iff.1 ho
  have := h i hlt
  rw [e, hc] at this
  cases this
theorem upon_round {P : Program} {o : Oper} {a : Act} {K : Act → World → Prop} {Q : Exit → Act → World → Prop} (ro : Option Nat) (n : Nat) (r : Result Next) (h : o.upon P a K Q r) : o.uponIn (FR ro) n P a K Q r := by
  cases r with
  | ok x w' =>
    cases x with
    | value v => exact h
    | skip => exact h
    | defer d => exact h
    | enter f args => exact ⟨fun hx => (by cases hx), (callsIn_wide.2 h : CallsIn Fence.wide (n - 1) P f args w' _)⟩
    | row row args => exact ⟨fun hx => (by cases hx), fun c cs _ => (by obtain ⟨v, w2, hR, hS⟩ := h c cs; exact ⟨v, w2, hR, stepsIn_wide.2 hS⟩)⟩
    | _ => exact h.elim
  | halt x w' =>
    cases x <;> first | exact h | exact h.elim
theorem wpOp_round {P : Program} {ops : Array Oper} {Q : Exit → Act → World → Prop} (ro : Option Nat) (n : Nat) (hQ : ¬ LetsOut Q) (hd : noDefer ops = true) {i : Nat} {K K' : Act → World → Prop} (hK : ∀ a w, K a w → K' a w) {a : Act} {w : World} (h : wpOp P ops Q i K a w) : wpOpIn (FR ro) n P ops Q i K' a w := by
  refine wpOpIn_mono hK ?_
  unfold wpOp at h
  unfold wpOpIn
  cases ho : ops[i]? with
  | none => rw [ho] at h; exact h
  | some o =>
    rw [ho] at h
    simp only at h ⊢
    split
    · rename_i hw
      rw [if_pos hw] at h
      unfold Oper.wpIn
      refine ⟨fun _ _ => trivial, ?_⟩
      rw [Oper.semAt_plain _ _ _ (noDefer_spec hd ho)]
      exact upon_round ro n _ (h.resolve_right fun hx => hQ hx.2)
    · rename_i hw
      rw [if_neg hw] at h
      exact ⟨fun _ _ => trivial, h⟩
theorem wpAny_round {P : Program} {ops : Array Oper} {md : Region.Mode} {Q : Exit → Act → World → Prop} (ro : Option Nat) (n : Nat) (hQ : ¬ LetsOut Q) (hd : noDefer ops = true) : ∀ (fuel : Nat) (listed : Array Bool) (a : Act) (w : World), wpAny P md ops Q fuel listed a w → wpAnyIn (FR ro) n P md ops Q fuel listed a w
  | 0, listed, a, w, h => h
  | fuel + 1, listed, a, w, h => ⟨h.1, fun i hi => wpOp_round ro n hQ hd (fun a w => wpAny_round ro n hQ hd fuel _ a w) (h.2 i hi)⟩
theorem wpIn_region_lastR {P : Program} {id : Nat} {ops : Array Oper} {Q : Exit → Act → World → Prop} {a : Act} {w : World} {S : World → Prop} {ro : Option Nat} {n : Nat} (L : Nat) {oL : Oper} (hm : P.follows .mixedOrders = true) (hQ : ¬ LetsOut Q) (hd : noDefer ops = true) (hL : ops[L]? = some oL) (hsz : ops.size = L + 1) (hg : oL.guard = none) (hac : acycB ops = true) (hwt : waitB ops L = true)
    (h : wpAnyH P .any ops (thenLast P oL Q) S L ((Array.replicate (L + 1) false).setIfInBounds L true) a w.drew) : (Code.region id ops true).wpIn (FR ro) n P Q a w := by
  refine wpIn_region_any hm (wpAny_round ro n hQ hd _ _ _ _ ?_)
  rw [hsz]
  refine wpAny_last hL hsz hg hac hwt L _ a _ (by simp) (by simp [Array.getD]) (fun i o ho hl => ?_) (wpAny_of_held _ _ _ _ h)
  simp [Array.getD] at hl
theorem wpIn_region_lastL {P : Program} {id : Nat} {ops : Array Oper} {Q : Exit → Act → World → Prop} {a : Act} {w : World} {S : World → Prop} {n l : Nat} (L : Nat) {oL : Oper} (hm : P.follows .mixedOrders = true) (hQ : ¬ LetsOut Q) (hd : noDefer ops = true) (hL : ops[L]? = some oL) (hsz : ops.size = L + 1) (hg : oL.guard = none) (hac : acycB ops = true) (hwt : waitB ops L = true)
    (h : wpAnyH P .any ops (thenLast P oL Q) S L ((Array.replicate (L + 1) false).setIfInBounds L true) a w.drew) : (Code.region id ops true).wpIn (Fence.wide.inRound l) n P Q a w :=
  wpIn_region_lastR (ro := some l) L hm hQ hd hL hsz hg hac hwt h
/-- an end that is reached only in the plain way -/
def justN (Q : Exit → Act → World → Prop) : Exit → Act → World → Prop
  | .normal, a, w => Q .normal a w
  | _, _, _ => False
theorem wp_just {P : Program} {c : Code} {Q : Exit → Act → World → Prop} {a : Act} {w : World} (h : c.wp P (justN Q) a w) : c.wp P Q a w := wp_mono h fun e a w h => by cases e <;> first | exact h | exact h.elim
theorem wpIn_just {F : Fence} {n : Nat} {P : Program} {c : Code} {Q : Exit → Act → World → Prop} {a : Act} {w : World} (h : c.wpIn F n P (justN Q) a w) : c.wpIn F n P Q a w := wpIn_mono h fun e a w h => by cases e <;> first | exact h | exact h.elim
theorem justN_n {Q : Exit → Act → World → Prop} {a : Act} {w : World} (h : Q .normal a w) : justN Q .normal a w := h
theorem justN_out (Q : Exit → Act → World → Prop) : ¬ LetsOut (justN Q) := fun ⟨_, _, h⟩ => h
end Go.Proofs.YtnbfddjaonlmaaaGreatDoor
