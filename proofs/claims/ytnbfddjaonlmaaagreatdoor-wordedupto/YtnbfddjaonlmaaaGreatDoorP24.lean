/- The sorter of the program's machine in memory: 'SoAt w b base sv nv ov lv V': block b is a sorter with the numbers, the order and the later ones of V. Its call visit does what the mirror says. -/
import Derived.Test.YtnbfddjaonlmaaaGreatDoorP20
import Derived.Test.YtnbfddjaonlmaaaGreatDoorP17
namespace Go.Proofs.YtnbfddjaonlmaaaGreatDoor
open Go.RowKit Go.Maps
set_option linter.unusedVariables false
set_option maxRecDepth 100000

def intL (l : List Int) : List Value := l.map fun v => .int .i64 v
def natL (l : List Nat) : List Value := l.map fun v : Nat => .int .i64 (v : Int)
theorem row_get {w : World} {base e n : Nat} {v : Value} {xs : List Value} (h : w.ownsRow base e 1 v n xs) (hn : 0 < n) : ∃ g c, v = .slice (some ⟨g, 0, none⟩) n c ∧ base ≤ g ∧ g < w.heap.size ∧ n ≤ c ∧ (∀ i, i < n → w.cell? ⟨g, i, none⟩ = xs[i]?) ∧ ∀ i, w.frozen? ⟨g, i, none⟩ = false := by
  obtain ⟨hx, h1⟩ := h
  rcases h1 with ⟨_, h0⟩ | ⟨g, cap, cur, rfl, a1, a2, a3, a4, a5, a6⟩
  · omega
  · refine ⟨g, cap, rfl, a1, (Array.getElem?_eq_some_iff.1 a2).1, a3, fun i hi => ?_, fun i => by simp [World.frozen?, a2]⟩
    rw [← a6, List.getElem?_take_of_lt (by omega)]
    simp only [World.cell?, a2]
    simp

/-- the blocks of a sorter -/
def OwnT (b : Nat) (nv ov lv : Value) : Nat → Prop := fun i => i = b ∨ nv.ownBlock = some i ∨ ov.ownBlock = some i ∨ lv.ownBlock = some i
structure SoAt (w : World) (b base : Nat) (sv nv ov lv : Value) (V : VS) : Prop where
  blk : Blk w b #[sv, nv, ov, lv] 112
  num : w.ownsRow base 3 1 nv V.num.length (intL V.num)
  ord : w.ownsRow base 3 1 ov V.ord.length (natL V.ord)
  lat : w.ownsRow base 3 1 lv V.lat.length (natL V.lat)
  bb : base ≤ b
  an : ∀ i, nv.ownBlock = some i → i ≠ b ∧ ov.ownBlock ≠ some i ∧ lv.ownBlock ≠ some i
  ao : ∀ i, ov.ownBlock = some i → i ≠ b ∧ lv.ownBlock ≠ some i
  al : ∀ i, lv.ownBlock = some i → i ≠ b
theorem SoAt.own {w : World} {b base : Nat} {sv nv ov lv : Value} {V : VS} (h : SoAt w b base sv nv ov lv V) {i : Nat} (hi : OwnT b nv ov lv i) : base ≤ i ∧ i < w.heap.size := by
  rcases hi with rfl | hi | hi | hi
  · exact ⟨h.bb, h.blk.lt⟩
  · exact ownsRow_block h.num hi
  · exact ownsRow_block h.ord hi
  · exact ownsRow_block h.lat hi
theorem SoAt.kept {w w' : World} {b base : Nat} {sv nv ov lv : Value} {V : VS} {K : Nat → Prop} (h : SoAt w b base sv nv ov lv V) (k : Kept K w w') (hK : ∀ i, K i → ¬ OwnT b nv ov lv i) : SoAt w' b base sv nv ov lv V :=
  ⟨h.blk.kept k (fun hx => hK b hx (Or.inl rfl)), ownsRow_kept h.num k (fun i hi hx => hK i hx (Or.inr (Or.inl hi))), ownsRow_kept h.ord k (fun i hi hx => hK i hx (Or.inr (Or.inr (Or.inl hi)))), ownsRow_kept h.lat k (fun i hi hx => hK i hx (Or.inr (Or.inr (Or.inr hi)))), h.bb, h.an, h.ao, h.al⟩
theorem SoAt.new {w w' : World} {b base : Nat} {sv nv ov lv : Value} {V : VS} (h : SoAt w b base sv nv ov lv V) (k : Kept Nil w w') : SoAt w' b base sv nv ov lv V := h.kept k (fun i hx => hx.elim)

structure WentT (b : Nat) (w w' : World) (nv ov lv ov' lv' : Value) : Prop where
  kept : Kept (OwnT b nv ov lv) w w'
  blk : ∀ i, OwnT b nv ov' lv' i → OwnT b nv ov lv i ∨ w.heap.size ≤ i
theorem WentT.refl (b : Nat) (w : World) (nv ov lv : Value) : WentT b w w nv ov lv ov lv := ⟨Kept.refl _ _, fun i h => Or.inl h⟩
theorem WentT.trans {b : Nat} {w w1 w2 : World} {nv ov lv ov1 lv1 ov2 lv2 : Value} (h : WentT b w w1 nv ov lv ov1 lv1) (h' : WentT b w1 w2 nv ov1 lv1 ov2 lv2) : WentT b w w2 nv ov lv ov2 lv2 where
  kept := h.kept.trans' h'.kept (fun i hi hx => by
    rcases h.blk i hx with h1 | h1
    · exact h1
    · omega)
  blk i hi := by
    have hs := h.kept.size
    rcases h'.blk i hi with h1 | h1
    · exact h.blk i h1
    · right; omega
theorem WentT.new {b : Nat} {w w1 w2 : World} {nv ov lv ov1 lv1 : Value} (h : WentT b w w1 nv ov lv ov1 lv1) (k : Kept Nil w1 w2) : WentT b w w2 nv ov lv ov1 lv1 := ⟨h.kept.trans' k (fun i _ hx => hx.elim), h.blk⟩
/-- the states as the sorter has them: the array g holds vs, which are like M -/
structure StsAt (w : World) (g : Nat) (vs : List Sv) (M : List MS) : Prop where
  len : vs.length = M.length
  cell : ∀ i, (h : i < vs.length) → ∀ j, j < 6 → w.cell? ⟨g, i * 6 + j, none⟩ = (vs[i]).cells[j]?
  lt : g < w.heap.size
  like : ∀ i, (h : i < vs.length) → (h' : i < M.length) → (vs[i]).k = (M[i]).kind ∧ (vs[i]).nx = (M[i]).next ∧ (vs[i]).ot = (M[i]).other
theorem StsAt.kept {w w' : World} {g : Nat} {vs : List Sv} {M : List MS} {K : Nat → Prop} (h : StsAt w g vs M) (k : Kept K w w') (hg : ¬ K g) : StsAt w' g vs M :=
  ⟨h.len, fun i hi j hj => (k.cell (p := ⟨g, i * 6 + j, none⟩) h.lt hg).trans (h.cell i hi j hj), Nat.lt_of_lt_of_le h.lt k.size, h.like⟩
theorem StsAt.six {w : World} {g : Nat} {vs : List Sv} {M : List MS} (h : StsAt w g vs M) {s : Nat} {m : MS} (hm : M[s]? = some m) : s < M.length ∧ ∃ q : Sv, (q.k = m.kind ∧ q.nx = m.next ∧ q.ot = m.other) ∧ ∀ W, StsAt W g vs M → (W.cell? ⟨g, s * 6, none⟩ = some (.int .i64 q.k) ∧ W.cell? ⟨g, s * 6 + 1, none⟩ = some (.slice q.sa q.sn q.sc) ∧ W.cell? ⟨g, s * 6 + 2, none⟩ = some (.int .i64 q.ed) ∧ W.cell? ⟨g, s * 6 + 3, none⟩ = some (.int .i64 q.sl) ∧ W.cell? ⟨g, s * 6 + 4, none⟩ = some (.int .i64 q.nx) ∧ W.cell? ⟨g, s * 6 + 5, none⟩ = some (.int .i64 q.ot)) := by
  obtain ⟨hs, e⟩ := List.getElem?_eq_some_iff.1 hm
  have hv : s < vs.length := by rw [h.len]; exact hs
  refine ⟨hs, vs[s], by rw [← e]; exact h.like s hv hs, fun W hW => ?_⟩
  exact ⟨hW.cell s hv 0 (by omega), hW.cell s hv 1 (by omega), hW.cell s hv 2 (by omega), hW.cell s hv 3 (by omega), hW.cell s hv 4 (by omega), hW.cell s hv 5 (by omega)⟩

theorem Vis.grow {M : List MS} {V V' : VS} {s : Int} (h : Vis M V s V') : V'.num.length = V.num.length ∧ V.ord.length ≤ V'.ord.length ∧ V.lat.length ≤ V'.lat.length := by
  induction h with
  | had V s v h hv => exact ⟨rfl, Nat.le_refl _, Nat.le_refl _⟩
  | stop V s m hn h hk => exact ⟨by simp [VS.put], by simp [VS.put], by simp [VS.put]⟩
  | take V s m hn h hk => exact ⟨by simp [VS.put, VS.late], by simp [VS.put, VS.late], by simp [VS.put, VS.late]⟩
  | one V V' s m hn h hk hv ih => exact ⟨by simp only [VS.put, List.length_set]; exact ih.1, by simp only [VS.put, List.length_append]; omega, by simp only [VS.put]; omega⟩
  | two V V' V2 s m hn h hk hv hw ih ih' => exact ⟨by simp only [VS.put, List.length_set]; omega, by simp only [VS.put, List.length_append]; omega, by simp only [VS.put]; omega⟩

theorem Tryz.infoInt0 : (Tryz.prog.info? 3).map (fun i => (i.zero, i.size, i.bytes)) = some (some (.int .i64 0), 1, 8) := by kernel_rfl

/-- one more of the later ones -/
theorem SoAt.lated {w W w7 : World} {b base : Nat} {sv nv ov lv lv' : Value} {V : VS} (h : SoAt w b base sv nv ov lv V) (t : Nat) (k0 : Kept Nil w W) (hown : w7.ownsRow base 3 1 lv' (V.lat.length + 1) (natL V.lat ++ [.int .i64 (t : Int)])) (hg : W.grownBy w7 lv.ownBlock) (hloc : lv'.ownBlock = lv.ownBlock ∨ lv'.ownBlock = some W.heap.size) :
    Blk w7 b #[sv, nv, ov, lv] 112 ∧ SoAt (w7.setCell ⟨b, 3, none⟩ lv') b base sv nv ov lv' (V.late t) ∧ WentT b w (w7.setCell ⟨b, 3, none⟩ lv') nv ov lv ov lv' := by
  have hszW := k0.size
  have k7 : Kept (fun i => lv.ownBlock = some i) w w7 := (k0.mono (fun i hx => hx.elim)).grown hg (fun j hj => Or.inl hj)
  have hlb : lv.ownBlock ≠ some b := fun e => h.al b e rfl
  have b7 := h.blk.kept k7 hlb
  have hloc' : ∀ i, lv'.ownBlock = some i → lv.ownBlock = some i ∨ w.heap.size ≤ i := by
    intro i hi
    rcases hloc with hl | hl
    · exact Or.inl (hl ▸ hi)
    · rw [hl] at hi; cases hi; right; omega
  have k8 : Kept (OwnT b nv ov lv) w (w7.setCell ⟨b, 3, none⟩ lv') := Kept.setCell (S := OwnT b nv ov lv) (k7.mono (S' := OwnT b nv ov lv) (fun i hi => Or.inr (Or.inr (Or.inr hi)))) (p := ⟨b, 3, none⟩) (Or.inl (Or.inl rfl)) _
  have kb : Kept (fun i => i = b) w7 (w7.setCell ⟨b, 3, none⟩ lv') := (Kept.refl (fun i => i = b) w7).setCell (p := ⟨b, 3, none⟩) (Or.inl rfl) lv'
  have hnb : ∀ i, lv'.ownBlock = some i → i ≠ b := fun i hi e => by
    subst e
    rcases hloc' i hi with h1 | h1
    · exact hlb h1
    · have := h.blk.lt; omega
  refine ⟨b7, ⟨?_, ?_, ?_, ?_, h.bb, fun i hi => ?_, fun i hi => ?_, hnb⟩, ⟨k8, fun i hi => ?_⟩⟩
  · have := b7.setCell 3 lv'
    simpa using this
  · exact ownsRow_kept (ownsRow_kept h.num k7 (fun i hi hx => (h.an i hi).2.2 hx)) kb (fun i hi e => (h.an i hi).1 e)
  · exact ownsRow_kept (ownsRow_kept h.ord k7 (fun i hi hx => (h.ao i hi).2 hx)) kb (fun i hi e => (h.ao i hi).1 e)
  · have e1 : (V.late t).lat.length = V.lat.length + 1 := by simp [VS.late]
    have e2 : natL (V.late t).lat = natL V.lat ++ [.int .i64 (t : Int)] := by simp [VS.late, natL]
    rw [e1, e2]
    exact ownsRow_kept hown kb (fun i hi e => hnb i hi e)
  · refine ⟨(h.an i hi).1, (h.an i hi).2.1, fun e => ?_⟩
    rcases hloc' i e with h1 | h1
    · exact (h.an i hi).2.2 h1
    · have := ownsRow_block h.num hi; omega
  · refine ⟨(h.ao i hi).1, fun e => ?_⟩
    rcases hloc' i e with h1 | h1
    · exact (h.ao i hi).2 h1
    · have := ownsRow_block h.ord hi; omega
  · rcases hi with rfl | hi | hi | hi
    · exact Or.inl (Or.inl rfl)
    · exact Or.inl (Or.inr (Or.inl hi))
    · exact Or.inl (Or.inr (Or.inr (Or.inl hi)))
    · rcases hloc' i hi with h1 | h1
      · exact Or.inl (Or.inr (Or.inr (Or.inr h1)))
      · exact Or.inr h1

/-- a state gets its number -/
theorem SoAt.number {w : World} {b base g n c : Nat} {sv ov lv : Value} {V : VS} (h : SoAt w b base sv (.slice (some ⟨g, 0, none⟩) n c) ov lv V) (s : Nat) (u : Int) : SoAt (w.setCell ⟨g, s, none⟩ (.int .i64 u)) b base sv (.slice (some ⟨g, 0, none⟩) n c) ov lv ⟨V.num.set s u, V.ord, V.lat⟩ := by
  have hg := h.an g rfl
  have k : Kept (fun i => i = g) w (w.setCell ⟨g, s, none⟩ (.int .i64 u)) := (Kept.refl (fun i => i = g) w).setCell (p := ⟨g, s, none⟩) (Or.inl rfl) _
  refine ⟨h.blk.kept k (fun e => hg.1 e.symm), ?_, ownsRow_kept h.ord k (fun i hi e => hg.2.1 (e ▸ hi)), ownsRow_kept h.lat k (fun i hi e => hg.2.2 (e ▸ hi)), h.bb, h.an, h.ao, h.al⟩
  have hn : n = V.num.length := by
    rcases h.num.2 with ⟨h1, _⟩ | ⟨g', cap, cur, hv, _⟩
    · cases h1
    · cases hv; rfl
  subst hn
  have := ownsRow_set h.num s (.int .i64 u)
  have e : (intL V.num).set s (.int .i64 u) = intL (V.num.set s u) := by simp [intL, List.map_set]
  rw [e] at this
  show (w.setCell ⟨g, s, none⟩ (.int .i64 u)).ownsRow base 3 1 _ (V.num.set s u).length (intL (V.num.set s u))
  rw [List.length_set]
  exact this
theorem WentT.number {b g n c s : Nat} {w w1 : World} {ov lv ov1 lv1 : Value} (h : WentT b w w1 (.slice (some ⟨g, 0, none⟩) n c) ov lv ov1 lv1) (u : Value) : WentT b w (w1.setCell ⟨g, s, none⟩ u) (.slice (some ⟨g, 0, none⟩) n c) ov lv ov1 lv1 :=
  ⟨h.kept.setCell (p := ⟨g, s, none⟩) (Or.inl (Or.inr (Or.inl rfl))) u, h.blk⟩

/-- one more in the order -/
theorem SoAt.ordered {w W w7 : World} {b base : Nat} {sv nv ov lv ov' : Value} {num : List Int} {ord lat : List Nat} (h : SoAt w b base sv nv ov lv ⟨num, ord, lat⟩) (t : Nat) (k0 : Kept Nil w W) (hown : w7.ownsRow base 3 1 ov' (ord.length + 1) (natL ord ++ [.int .i64 (t : Int)])) (hg : W.grownBy w7 ov.ownBlock) (hloc : ov'.ownBlock = ov.ownBlock ∨ ov'.ownBlock = some W.heap.size) :
    Blk w7 b #[sv, nv, ov, lv] 112 ∧ SoAt (w7.setCell ⟨b, 2, none⟩ ov') b base sv nv ov' lv ⟨num, ord ++ [t], lat⟩ ∧ WentT b w (w7.setCell ⟨b, 2, none⟩ ov') nv ov lv ov' lv := by
  have hszW := k0.size
  have k7 : Kept (fun i => ov.ownBlock = some i) w w7 := (k0.mono (fun i hx => hx.elim)).grown hg (fun j hj => Or.inl hj)
  have hlb : ov.ownBlock ≠ some b := fun e => (h.ao b e).1 rfl
  have b7 := h.blk.kept k7 hlb
  have hloc' : ∀ i, ov'.ownBlock = some i → ov.ownBlock = some i ∨ w.heap.size ≤ i := by
    intro i hi
    rcases hloc with hl | hl
    · exact Or.inl (hl ▸ hi)
    · rw [hl] at hi; cases hi; right; omega
  have k8 : Kept (OwnT b nv ov lv) w (w7.setCell ⟨b, 2, none⟩ ov') := Kept.setCell (S := OwnT b nv ov lv) (k7.mono (S' := OwnT b nv ov lv) (fun i hi => Or.inr (Or.inr (Or.inl hi)))) (p := ⟨b, 2, none⟩) (Or.inl (Or.inl rfl)) _
  have kb : Kept (fun i => i = b) w7 (w7.setCell ⟨b, 2, none⟩ ov') := (Kept.refl (fun i => i = b) w7).setCell (p := ⟨b, 2, none⟩) (Or.inl rfl) ov'
  have hnb : ∀ i, ov'.ownBlock = some i → i ≠ b := fun i hi e => by
    subst e
    rcases hloc' i hi with h1 | h1
    · exact hlb h1
    · have := h.blk.lt; omega
  refine ⟨b7, ⟨?_, ?_, ?_, ?_, h.bb, fun i hi => ?_, fun i hi => ?_, h.al⟩, ⟨k8, fun i hi => ?_⟩⟩
  · have := b7.setCell 2 ov'
    simpa using this
  · exact ownsRow_kept (ownsRow_kept h.num k7 (fun i hi hx => (h.an i hi).2.1 hx)) kb (fun i hi e => (h.an i hi).1 e)
  · have e2 : natL (ord ++ [t]) = natL ord ++ [.int .i64 (t : Int)] := by simp [natL]
    show World.ownsRow _ base 3 1 ov' (ord ++ [t]).length (natL (ord ++ [t]))
    rw [List.length_append, e2]
    exact ownsRow_kept hown kb (fun i hi e => hnb i hi e)
  · exact ownsRow_kept (ownsRow_kept h.lat k7 (fun i hi hx => (h.ao i hx).2 hi)) kb (fun i hi e => h.al i hi e)
  · refine ⟨(h.an i hi).1, fun e => ?_, (h.an i hi).2.2⟩
    rcases hloc' i e with h1 | h1
    · exact (h.an i hi).2.1 h1
    · have := ownsRow_block h.num hi; omega
  · refine ⟨hnb i hi, fun e => ?_⟩
    rcases hloc' i hi with h1 | h1
    · exact (h.ao i h1).2 e
    · have := ownsRow_block h.lat e; omega
  · rcases hi with rfl | hi | hi | hi
    · exact Or.inl (Or.inl rfl)
    · exact Or.inl (Or.inr (Or.inl hi))
    · rcases hloc' i hi with h1 | h1
      · exact Or.inl (Or.inr (Or.inr (Or.inl h1)))
      · exact Or.inr h1
    · exact Or.inl (Or.inr (Or.inr (Or.inr hi)))
end Go.Proofs.YtnbfddjaonlmaaaGreatDoor
