/- A node of the program in memory: 'PTAt w lo hi q T C': the value q is the piece T (its form) and C (its contents), and all arrays that it leads to lie in blocks from lo up to hi; 'PsAt': a list of pieces that the call itself is making. -/
import Derived.Test.YtnbfddjaonlmaaaGreatDoorP03
import Derived.Test.YtnbfddjaonlmaaaGreatDoorP06
import Derived.Maps.AppendAt
namespace Go.Proofs.YtnbfddjaonlmaaaGreatDoor
open Go.RowKit Go.Maps
set_option linter.unusedVariables false
set_option maxRecDepth 100000

theorem ownsRow_block {w : World} {base e size n : Nat} {v : Value} {xs : List Value} (h : w.ownsRow base e size v n xs) {b : Nat} (hb : v.ownBlock = some b) : base ≤ b ∧ b < w.heap.size := own32_block h hb
theorem ownsRow_kept {w w' : World} {base e size n : Nat} {v : Value} {xs : List Value} {S : Nat → Prop} (h : w.ownsRow base e size v n xs) (k : Kept S w w') (hs : ∀ b, v.ownBlock = some b → ¬ S b) : w'.ownsRow base e size v n xs := own32_kept h k hs
theorem ownsRow_slice {w : World} {base e size n : Nat} {v : Value} {xs : List Value} (h : w.ownsRow base e size v n xs) : ∃ ao c, v = .slice ao n c := ownsRow_slice32 h

/-- a value of type Node: kind, parts, set, edge, group, low, high, lazy -/
structure Nv where
  k : Int
  pa : Option Addr
  pn : Nat
  pc : Nat
  sa : Option Addr
  sn : Nat
  sc : Nat
  ed : Int
  gr : Int
  lo : Int
  hi : Int
  lz : Bool
def Nv.cells (q : Nv) : Array Value := #[.int .i64 q.k, .slice q.pa q.pn q.pc, .slice q.sa q.sn q.sc, .int .i64 q.ed, .int .i64 q.gr, .int .i64 q.lo, .int .i64 q.hi, .bool q.lz]
def Nv.val (q : Nv) : Value := .agg q.cells
def zeroNv : Nv := ⟨0, none, 0, 0, none, 0, 0, 0, 0, 0, 0, false⟩
/-- a leaf -/
def setNv (sa : Option Addr) (sn sc : Nat) : Nv := ⟨0, none, 0, 0, sa, sn, sc, 0, 0, 0, 0, false⟩
def edgeNv (e : Int) : Nv := ⟨1, none, 0, 0, none, 0, 0, e, 0, 0, 0, false⟩

inductive PTAt (w : World) (lo hi : Nat) : Nv → PT → CT → Prop where
  | mk (q : Nv) (tk : Int) (b bs : Nat) (ts : List PT) (cs : List CT) (V : Nat → Nv) (S sp : Spans) (fo nt : Bool)
      (hn : q.pn = ts.length ∧ cs.length = ts.length ∧ q.sn = S.length)
      (hb : ts ≠ [] → q.pa = some ⟨b, 0, none⟩ ∧ lo ≤ b ∧ b < hi)
      (hc : ∀ i, i < ts.length → ∀ j, j < 8 → w.cell? ⟨b, i * 8 + j, none⟩ = (V i).cells[j]?)
      (hk : ∀ i, (h : i < ts.length) → (h' : i < cs.length) → PTAt w lo hi (V i) ts[i] cs[i])
      (hs : S ≠ [] → q.sa = some ⟨bs, 0, none⟩ ∧ lo ≤ bs ∧ bs < hi)
      (hsc : Cells32 w bs S)
      (hr : (-1 ≤ q.lo ∧ q.lo ≤ 99) ∧ (-1 ≤ q.hi ∧ q.hi ≤ 99) ∧ ts.length ≤ 400 ∧ (0 ≤ q.gr ∧ q.gr ≤ 300) ∧ (0 ≤ q.ed ∧ q.ed ≤ 3) ∧ RuneSp S ∧ S.length ≤ 6000)
      (hkind : (q.k = 0 ∧ tk = 0 ∧ SetOf S sp fo nt) ∨ (q.k = 1 ∧ tk = 0) ∨ (q.k = 2 ∧ tk = 1) ∨ (q.k = 3 ∧ tk = 2) ∨ (q.k = 4 ∧ tk = 3 ∧ ts ≠ []) ∨ (q.k = 5 ∧ tk = 4)) :
      PTAt w lo hi q (.node tk ts q.lo q.hi) (.node q.k sp fo nt q.ed q.gr q.lo q.hi q.lz cs)

theorem Cells32.nil (w : World) (b : Nat) : Cells32 w b [] := fun i h => by simp at h

theorem PTAt.kept {w w' : World} {lo hi : Nat} {q : Nv} {T : PT} {C : CT} {S : Nat → Prop} (h : PTAt w lo hi q T C) (k : Kept S w w') (hs : ∀ i, lo ≤ i → i < hi → ¬ S i) (hle : hi ≤ w.heap.size) : PTAt w' lo hi q T C := by
  induction h with
  | mk q tk b bs ts cs V Sp sp fo nt hn hb hc hk hs1 hsc hr hkind ih =>
    refine PTAt.mk q tk b bs ts cs V Sp sp fo nt hn hb (fun i hi' j hj => ?_) (fun i h1 h2 => ih i h1 h2) hs1 (fun i hi' => ?_) hr hkind
    · have hne : ts ≠ [] := by intro e; subst e; simp at hi'
      obtain ⟨_, b1, b2⟩ := hb hne
      exact (k.cell (p := ⟨b, i * 8 + j, none⟩) (by show b < _; omega) (hs b b1 b2)).trans (hc i hi' j hj)
    · have hne : Sp ≠ [] := by intro e; subst e; simp at hi'
      obtain ⟨_, b1, b2⟩ := hs1 hne
      exact ⟨(k.cell (p := ⟨bs, i * 2, none⟩) (by show bs < _; omega) (hs bs b1 b2)).trans (hsc i hi').1, (k.cell (p := ⟨bs, i * 2 + 1, none⟩) (by show bs < _; omega) (hs bs b1 b2)).trans (hsc i hi').2⟩

theorem PTAt.widen {w : World} {lo hi lo' hi' : Nat} {q : Nv} {T : PT} {C : CT} (h : PTAt w lo hi q T C) (h1 : lo' ≤ lo) (h2 : hi ≤ hi') : PTAt w lo' hi' q T C := by
  induction h with
  | mk q tk b bs ts cs V Sp sp fo nt hn hb hc hk hs1 hsc hr hkind ih =>
    exact PTAt.mk q tk b bs ts cs V Sp sp fo nt hn (fun hne => by obtain ⟨a, b1, b2⟩ := hb hne; exact ⟨a, by omega, by omega⟩) hc (fun i a1 a2 => ih i a1 a2) (fun hne => by obtain ⟨a, b1, b2⟩ := hs1 hne; exact ⟨a, by omega, by omega⟩) hsc hr hkind

theorem PTAt.edge (w : World) (lo hi : Nat) (e : Int) (he : 0 ≤ e ∧ e ≤ 3) : PTAt w lo hi (edgeNv e) single (cEdge e) :=
  PTAt.mk (edgeNv e) 0 0 0 [] [] (fun _ => zeroNv) [] [] false false ⟨rfl, rfl, rfl⟩ (fun h => absurd rfl h) (fun i h => by simp at h) (fun i h => by simp at h) (fun h => absurd rfl h) (Cells32.nil _ _)
    ⟨by simp [edgeNv], by simp [edgeNv], by simp, by simp [edgeNv], he, fun s h => by simp at h, by simp⟩ (Or.inr (Or.inl ⟨rfl, rfl⟩))
theorem PTAt.leaf {w : World} {lo : Nat} {v : Value} {S sp : Spans} {fo nt : Bool} (h : w.ownsRow lo 149 2 v S.length (flat32 S)) (hS : SetOf S sp fo nt) (hr : RuneSp sp) (hl : sp.length ≤ 1900) :
    ∃ sa sc, v = .slice sa S.length sc ∧ PTAt w lo w.heap.size (setNv sa S.length sc) single (cLeaf sp fo nt) := by
  have hrl := hS.rune_len hr
  by_cases hne : S = []
  · obtain ⟨sa, sc, rfl⟩ := ownsRow_slice32 h
    refine ⟨sa, sc, rfl, PTAt.mk (setNv sa S.length sc) 0 0 0 [] [] (fun _ => zeroNv) S sp fo nt ⟨rfl, rfl, rfl⟩ (fun h => absurd rfl h) (fun i h => by simp at h) (fun i h => by simp at h) (fun h => absurd hne h) (by rw [hne]; exact Cells32.nil _ _)
      ⟨by simp [setNv], by simp [setNv], by simp, by simp [setNv], by simp [setNv], hrl.1, by omega⟩ (Or.inl ⟨rfl, rfl, hS⟩)⟩
  · obtain ⟨g, sc, rfl, h1, h2, h3, _⟩ := cells_of_own h hne
    exact ⟨some ⟨g, 0, none⟩, sc, rfl, PTAt.mk (setNv (some ⟨g, 0, none⟩) S.length sc) 0 0 g [] [] (fun _ => zeroNv) S sp fo nt ⟨rfl, rfl, rfl⟩ (fun h => absurd rfl h) (fun i h => by simp at h) (fun i h => by simp at h) (fun _ => ⟨rfl, h1, h2⟩) h3
      ⟨by simp [setNv], by simp [setNv], by simp, by simp [setNv], by simp [setNv], hrl.1, by omega⟩ (Or.inl ⟨rfl, rfl, hS⟩)⟩

/-! ## a list of pieces -/
def flat : List Nv → List Value
  | [] => []
  | q :: qs => q.cells.toList ++ flat qs
theorem Nv.cells_length (q : Nv) : q.cells.toList.length = 8 := rfl
theorem flat_append (a b : List Nv) : flat (a ++ b) = flat a ++ flat b := by
  induction a with
  | nil => rfl
  | cons q qs ih => simp [flat, ih]
theorem flat_get (qs : List Nv) (i : Nat) (h : i < qs.length) (j : Nat) (hj : j < 8) : (flat qs)[i * 8 + j]? = (qs[i]).cells[j]? := by
  induction qs generalizing i with
  | nil => simp at h
  | cons q qs ih =>
    cases i with
    | zero =>
      simp only [flat, List.getElem_cons_zero]
      rw [List.getElem?_append_left (by rw [Nv.cells_length]; omega), show 0 * 8 + j = j by omega]
      simp
    | succ i =>
      have := ih i (by simpa using h)
      simp only [flat, List.getElem_cons_succ]
      rw [List.getElem?_append_right (by rw [Nv.cells_length]; omega), Nv.cells_length, show (i + 1) * 8 + j - 8 = i * 8 + j by omega]
      exact this
theorem Nv.one (q : Nv) : ∀ u ∈ q.cells.toList, u.oneCell' = true := by
  intro u hu
  simp [Nv.cells] at hu
  rcases hu with rfl | rfl | rfl | rfl | rfl | rfl | rfl | rfl <;> rfl

/-- the slice v is the call's own list of the pieces ts, cs; base: the first block of the call's own -/
structure PsAt (w : World) (base : Nat) (v : Value) (qs : List Nv) (ts : List PT) (cs : List CT) : Prop where
  own : w.ownsRow base 56 8 v ts.length (flat qs)
  len : qs.length = ts.length
  clen : cs.length = ts.length
  few : ts.length ≤ 400
  kid : ∀ i, (h : i < ts.length) → (h' : i < qs.length) → (h'' : i < cs.length) → ∃ lo hi, base ≤ lo ∧ hi ≤ w.heap.size ∧ PTAt w lo hi qs[i] ts[i] cs[i] ∧ ∀ b, v.ownBlock = some b → ¬ (lo ≤ b ∧ b < hi)

theorem PsAt.nil (w : World) (base : Nat) : PsAt w base (.slice none 0 0) [] [] [] := ⟨World.ownsRow_nil _ _ _ _, rfl, rfl, by simp, fun i h => by simp at h⟩

/-- what is the call's own stays so while nothing from base on is turned -/
theorem PsAt.kept {w w' : World} {base : Nat} {v : Value} {qs : List Nv} {ts : List PT} {cs : List CT} {S : Nat → Prop} (h : PsAt w base v qs ts cs) (k : Kept S w w') (hs : ∀ i, S i → i < base) : PsAt w' base v qs ts cs where
  own := own32_kept h.own k (fun b hb hx => by have := own32_block h.own hb; have := hs b hx; omega)
  len := h.len
  clen := h.clen
  few := h.few
  kid i h1 h2 h3 := by
    obtain ⟨lo, hi2, a1, a2, a3, a4⟩ := h.kid i h1 h2 h3
    exact ⟨lo, hi2, a1, Nat.le_trans a2 k.size, a3.kept k (fun j hj _ hx => by have := hs j hx; omega) a2, a4⟩

/-- one more piece -/
theorem PsAt.snoc {w w1 w' : World} {base : Nat} {v v' : Value} {qs : List Nv} {ts : List PT} {cs : List CT} {q : Nv} {T : PT} {C : CT} {lo hi : Nat} (h : PsAt w base v qs ts cs)
    (hq : PTAt w lo hi q T C) (hlo : base ≤ lo) (hvl : ∀ b, v.ownBlock = some b → b < lo) (hhi : hi ≤ w.heap.size)
    (k1 : Kept Nil w w1) (hown : w'.ownsRow base 56 8 v' (ts.length + 1) (flat qs ++ q.cells.toList)) (hg : w1.grownBy w' v.ownBlock) (hloc : v'.ownBlock = v.ownBlock ∨ v'.ownBlock = some w1.heap.size) (hfew : ts.length + 1 ≤ 400) : PsAt w' base v' (qs ++ [q]) (ts ++ [T]) (cs ++ [C]) := by
  have kk : Kept (fun i => v.ownBlock = some i) w w' := (k1.mono (fun _ hx => hx.elim)).grown hg (fun j hj => Or.inl hj)
  have hsz : w.heap.size ≤ w1.heap.size := k1.size
  have hcl := h.clen
  have hql := h.len
  refine ⟨by rw [flat_append]; simpa [flat] using hown, by simp [h.len], by simp [h.clen], by simpa using hfew, fun i hi1 hi2 hi3 => ?_⟩
  by_cases hlt : i < ts.length
  · obtain ⟨lo2, hi3', a1, a2, a3, a4⟩ := h.kid i hlt (by omega) (by omega)
    refine ⟨lo2, hi3', a1, Nat.le_trans a2 kk.size, ?_, fun b hb => ?_⟩
    · have e1 : (qs ++ [q])[i] = qs[i]'(by omega) := List.getElem_append_left _
      have e2 : (ts ++ [T])[i] = ts[i] := List.getElem_append_left _
      have e3 : (cs ++ [C])[i] = cs[i]'(by omega) := List.getElem_append_left _
      rw [e1, e2, e3]
      exact a3.kept kk (fun j hj1 hj2 hx => a4 j hx ⟨hj1, hj2⟩) a2
    · rcases hloc with hl | hl
      · exact a4 b (hl ▸ hb)
      · rw [hl] at hb; cases hb; omega
  · have hi' : i = ts.length := by simp at hi1; omega
    subst hi'
    refine ⟨lo, hi, hlo, Nat.le_trans hhi kk.size, ?_, fun b hb => ?_⟩
    · have e1 : (qs ++ [q])[ts.length] = q := by simp [← h.len]
      have e2 : (ts ++ [T])[ts.length] = T := by simp
      have e3 : (cs ++ [C])[ts.length] = C := by simp [← h.clen]
      rw [e1, e2, e3]
      exact hq.kept kk (fun j hj1 _ hx => by have := hvl j hx; omega) hhi
    · rcases hloc with hl | hl
      · have := hvl b (hl ▸ hb); omega
      · rw [hl] at hb; cases hb; omega

/-- a node over a list of pieces -/
def listNv (k : Int) (pa : Option Addr) (pn pc : Nat) : Nv := ⟨k, pa, pn, pc, none, 0, 0, 0, 0, 0, 0, false⟩
theorem PsAt.node {w : World} {base : Nat} {v : Value} {qs : List Nv} {ts : List PT} {cs : List CT} (h : PsAt w base v qs ts cs) (k tk : Int) (hk : (k = 3 ∧ tk = 2) ∨ (k = 4 ∧ tk = 3 ∧ ts ≠ [])) :
    ∃ pa pc, v = .slice pa ts.length pc ∧ PTAt w base w.heap.size (listNv k pa ts.length pc) (.node tk ts 0 0) (.node k [] false false 0 0 0 0 false cs) := by
  have hcl := h.clen
  have hql := h.len
  have kids : ∀ i, (h1 : i < ts.length) → (h2 : i < cs.length) → PTAt w base w.heap.size (qs.getD i zeroNv) ts[i] cs[i] := by
    intro i h1 h2
    have hi2 : i < qs.length := by omega
    obtain ⟨lo, hi3, a1, a2, a3, _⟩ := h.kid i h1 hi2 h2
    have e : qs.getD i zeroNv = qs[i] := by simp [List.getD, List.getElem?_eq_getElem hi2]
    rw [e]
    exact a3.widen a1 a2
  have hkind : ((listNv k none 0 0).k = 0 ∧ tk = 0 ∧ SetOf [] [] false false) ∨ (k = 1 ∧ tk = 0) ∨ (k = 2 ∧ tk = 1) ∨ (k = 3 ∧ tk = 2) ∨ (k = 4 ∧ tk = 3 ∧ ts ≠ []) ∨ (k = 5 ∧ tk = 4) := by
    rcases hk with hk | hk
    · exact Or.inr (Or.inr (Or.inr (Or.inl hk)))
    · exact Or.inr (Or.inr (Or.inr (Or.inr (Or.inl hk))))
  rcases h.own.2 with ⟨rfl, hn⟩ | ⟨g, cap, cur, rfl, a1, a2, a3, a4, a5, a6⟩
  · have e : ts = [] := List.length_eq_zero_iff.1 hn
    subst e
    refine ⟨none, 0, rfl, PTAt.mk (listNv k none 0 0) tk 0 0 [] cs (fun _ => zeroNv) [] [] false false ⟨rfl, hcl, rfl⟩ (fun h => absurd rfl h) (fun i h => by simp at h) (fun i h => by simp at h) (fun h => absurd rfl h) (Cells32.nil _ _)
      ⟨by simp [listNv], by simp [listNv], by simp, by simp [listNv], by simp [listNv], fun s h => by simp at h, by simp⟩ hkind⟩
  · refine ⟨_, cap, rfl, PTAt.mk (listNv k (some ⟨g, 0, none⟩) ts.length cap) tk g 0 ts cs (fun i => qs.getD i zeroNv) [] [] false false ⟨rfl, hcl, rfl⟩ (fun _ => ⟨rfl, a1, (Array.getElem?_eq_some_iff.1 a2).1⟩) (fun i hi j hj => ?_) kids (fun h => absurd rfl h) (Cells32.nil _ _)
      ⟨by simp [listNv], by simp [listNv], h.few, by simp [listNv], by simp [listNv], fun s h => by simp at h, by simp⟩ hkind⟩
    have hi2 : i < qs.length := by omega
    have e : qs.getD i zeroNv = qs[i] := by simp [List.getD, List.getElem?_eq_getElem hi2]
    have hf := flat_get qs i hi2 j hj
    rw [e, ← hf, ← a6, List.getElem?_take_of_lt (by omega)]
    simp only [World.cell?, a2]
    simp
/-- a node of one piece -/
def oneNv (k : Int) (b cap : Nat) (gr lo hi : Int) (lz : Bool) : Nv := ⟨k, some ⟨b, 0, none⟩, 1, cap, none, 0, 0, 0, gr, lo, hi, lz⟩
theorem PTAt.wrap {w W : World} {lo hi lo0 hi0 b cap : Nat} {q : Nv} {T : PT} {C : CT} {S : Nat → Prop} {k tk gr l h : Int} {lz : Bool} (hp : PTAt w lo hi q T C) (hhi : hi ≤ w.heap.size) (kk : Kept S w W) (hS : ∀ i, S i → i < lo ∨ hi ≤ i)
    (hb : Blk W b q.cells 56) (hlo : lo0 ≤ lo) (hhi0 : hi ≤ hi0) (hb0 : lo0 ≤ b ∧ b < hi0) (hr : (-1 ≤ l ∧ l ≤ 99) ∧ (-1 ≤ h ∧ h ≤ 99) ∧ (0 ≤ gr ∧ gr ≤ 300)) (hk : (k = 2 ∧ tk = 1) ∨ (k = 5 ∧ tk = 4)) :
    PTAt W lo0 hi0 (oneNv k b cap gr l h lz) (.node tk [T] l h) (.node k [] false false 0 gr l h lz [C]) := by
  refine PTAt.mk (oneNv k b cap gr l h lz) tk b 0 [T] [C] (fun _ => q) [] [] false false ⟨rfl, rfl, rfl⟩ (fun _ => ⟨rfl, hb0.1, hb0.2⟩) (fun i hi' j hj => ?_) (fun i h1 h2 => ?_) (fun h => absurd rfl h) (Cells32.nil _ _)
    ⟨hr.1, hr.2.1, by simp, hr.2.2, by simp [oneNv], fun s h => by simp at h, by simp⟩ ?_
  · have e : i = 0 := by simp at hi'; omega
    subst e
    rw [hb.cell (0 * 8 + j), show 0 * 8 + j = j by omega]
  · have e : i = 0 := by simp at h1; omega
    subst e
    exact (hp.kept kk (fun j h1 h2 hx => by rcases hS j hx with h3 | h3 <;> omega) hhi).widen hlo hhi0
  · rcases hk with hk | hk
    · exact Or.inr (Or.inr (Or.inl hk))
    · exact Or.inr (Or.inr (Or.inr (Or.inr (Or.inr hk))))

/-! ## where a node lies in a block -/
def putNv (w : World) (b : Nat) (q : Nv) : World :=
  (((((((w.setCell ⟨b, 0, none⟩ (.int .i64 q.k)).setCell ⟨b, 1, none⟩ (.slice q.pa q.pn q.pc)).setCell ⟨b, 2, none⟩ (.slice q.sa q.sn q.sc)).setCell ⟨b, 3, none⟩ (.int .i64 q.ed)).setCell ⟨b, 4, none⟩ (.int .i64 q.gr)).setCell ⟨b, 5, none⟩ (.int .i64 q.lo)).setCell ⟨b, 6, none⟩ (.int .i64 q.hi)).setCell ⟨b, 7, none⟩ (.bool q.lz)
theorem putNv_kept (w : World) (b : Nat) (q : Nv) : Kept (fun i => i = b) w (putNv w b q) :=
  ((((((((Kept.refl (fun i => i = b) w).setCell (p := ⟨b, 0, none⟩) (Or.inl rfl) _).setCell (p := ⟨b, 1, none⟩) (Or.inl rfl) _).setCell (p := ⟨b, 2, none⟩) (Or.inl rfl) _).setCell (p := ⟨b, 3, none⟩) (Or.inl rfl) _).setCell (p := ⟨b, 4, none⟩) (Or.inl rfl) _).setCell (p := ⟨b, 5, none⟩) (Or.inl rfl) _).setCell (p := ⟨b, 6, none⟩) (Or.inl rfl) _).setCell (p := ⟨b, 7, none⟩) (Or.inl rfl) _
theorem putNv_size (w : World) (b : Nat) (q : Nv) : (putNv w b q).heap.size = w.heap.size := by simp [putNv, World.setCell]
theorem putNv_blk {w : World} {b : Nat} {p : Nv} {t : TypeId} (h : Blk w b p.cells t) (q : Nv) : Blk (putNv w b q) b q.cells t := by
  have h8 := (((((((h.setCell 0 (.int .i64 q.k)).setCell 1 (.slice q.pa q.pn q.pc)).setCell 2 (.slice q.sa q.sn q.sc)).setCell 3 (.int .i64 q.ed)).setCell 4 (.int .i64 q.gr)).setCell 5 (.int .i64 q.lo)).setCell 6 (.int .i64 q.hi)).setCell 7 (.bool q.lz)
  have e : (((((((p.cells.setIfInBounds 0 (.int .i64 q.k)).setIfInBounds 1 (.slice q.pa q.pn q.pc)).setIfInBounds 2 (.slice q.sa q.sn q.sc)).setIfInBounds 3 (.int .i64 q.ed)).setIfInBounds 4 (.int .i64 q.gr)).setIfInBounds 5 (.int .i64 q.lo)).setIfInBounds 6 (.int .i64 q.hi)).setIfInBounds 7 (.bool q.lz) = q.cells := by simp [Nv.cells]
  rw [e] at h8
  exact h8
theorem Blk.eight {w : World} {b : Nat} {q : Nv} {t : TypeId} (h : Blk w b q.cells t) :
    w.cell? ⟨b, 0, none⟩ = some (.int .i64 q.k) ∧ w.cell? ⟨b, 1, none⟩ = some (.slice q.pa q.pn q.pc) ∧ w.cell? ⟨b, 2, none⟩ = some (.slice q.sa q.sn q.sc) ∧ w.cell? ⟨b, 3, none⟩ = some (.int .i64 q.ed) ∧ w.cell? ⟨b, 4, none⟩ = some (.int .i64 q.gr) ∧ w.cell? ⟨b, 5, none⟩ = some (.int .i64 q.lo) ∧ w.cell? ⟨b, 6, none⟩ = some (.int .i64 q.hi) ∧ w.cell? ⟨b, 7, none⟩ = some (.bool q.lz) :=
  ⟨h.cell 0, h.cell 1, h.cell 2, h.cell 3, h.cell 4, h.cell 5, h.cell 6, h.cell 7⟩
theorem Blk.thaw {w : World} {b : Nat} {cs : Array Value} {t : TypeId} (h : Blk w b cs t) :
    w.frozen? ⟨b, 0, none⟩ = false ∧ w.frozen? ⟨b, 1, none⟩ = false ∧ w.frozen? ⟨b, 2, none⟩ = false ∧ w.frozen? ⟨b, 3, none⟩ = false ∧ w.frozen? ⟨b, 4, none⟩ = false ∧ w.frozen? ⟨b, 5, none⟩ = false ∧ w.frozen? ⟨b, 6, none⟩ = false ∧ w.frozen? ⟨b, 7, none⟩ = false :=
  ⟨h.frozen 0, h.frozen 1, h.frozen 2, h.frozen 3, h.frozen 4, h.frozen 5, h.frozen 6, h.frozen 7⟩
/-- the way out of a function whose result is a node that lies in block b -/
theorem node_ret {f : Func} {Q : Ending → World → Prop} {a : Act} {W : World} {b i : Nat} {q : Nv} (hres : f.results = #[ResultVar.cell i 56]) (hslot : a.tmps.getD i undef = .pointer (some ⟨b, 0, none⟩)) (hd : a.defers = [])
    (hb : Blk W b q.cells 56) (hQ : Q (.returned q.val) W) : bodyPost Tryz.prog f Q Exit.ret a W := by
  obtain ⟨r0, r1, r2, r3, r4, r5, r6, r7⟩ := hb.eight
  have hs2 : a.tmps[i]?.getD undef = .pointer (some ⟨b, 0, none⟩) := by simpa using hslot
  exact bodyPost_ret (v := q.val) (by simp [results, hres, go_sem, hs2, r0, r1, r2, r3, r4, r5, r6, r7, Nv.val, Nv.cells]) hd hQ
theorem nv_news {w : World} (q : Nv) (j : Nat) (u : Value) (h : q.cells.toList[j]? = some u) : (w.alloc (.cells q.cells 56)).cell? (Addr.add ⟨w.heap.size, 0, none⟩ j) = some u := new32 w q.cells 56 j u h
end Go.Proofs.YtnbfddjaonlmaaaGreatDoor
