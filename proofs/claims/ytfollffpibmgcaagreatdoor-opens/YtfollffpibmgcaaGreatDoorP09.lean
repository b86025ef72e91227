/- The builder of the program's machine in memory: 'BdAt w b lo hi v st': block b is a builder of the states st; the sets of their pieces lie in blocks from lo up to hi. The builder's small calls: forkOne, fork, either, lead do what the mirror says. The builder's lead does what the mirror says. -/
import Derived.Test.YtfollffpibmgcaaGreatDoorP07
import Derived.Test.YtfollffpibmgcaaGreatDoorP08
import Derived.Deep.RegionLaw
set_option linter.unusedVariables false
set_option maxRecDepth 100000
namespace Go.Proofs.YtfollffpibmgcaaGreatDoor
open Go.RowKit Go.Maps
structure Sv where
 k : Int
 sa : Option Addr
 sn : Nat
 sc : Nat
 ed : Int
 sl : Int
 nx : Int
 ot : Int
def Sv.cells (q : Sv) : Array Value := #[.int .i64 q.k, .slice q.sa q.sn q.sc, .int .i64 q.ed, .int .i64 q.sl, .int .i64 q.nx, .int .i64 q.ot]
def Sv.val (q : Sv) : Value := .agg q.cells
def flatS : List Sv → List Value
 | [] => []
 | q :: qs => q.cells.toList ++ flatS qs
theorem Sv.cells_length (q : Sv) : q.cells.toList.length = 6 := rfl
theorem flatS_append (a b : List Sv) : flatS (a ++ b) = flatS a ++ flatS b := by
 induction a with
 | nil => rfl
 | cons q qs ih => simp [flatS, ih]
theorem flatS_get (qs : List Sv) (i : Nat) (h : i < qs.length) (j : Nat) (hj : j < 6) : (flatS qs)[i * 6 + j]? = (qs[i]).cells[j]? := by
 induction qs generalizing i with
 | nil => simp at h
 | cons q qs ih =>
  cases i with
  | zero =>
   simp only [flatS, List.getElem_cons_zero]
   rw [List.getElem?_append_left (by rw [Sv.cells_length]; omega), show 0 * 6 + j = j by omega]
   simp
  | succ i =>
   have := ih i (by simpa using h)
   simp only [flatS, List.getElem_cons_succ]
   rw [List.getElem?_append_right (by rw [Sv.cells_length]; omega), Sv.cells_length, show (i + 1) * 6 + j - 6 = i * 6 + j by omega]
   exact this
theorem Sv.one (q : Sv) : ∀ u ∈ q.cells.toList, u.oneCell' = true := by
 intro u hu
 simp [Sv.cells] at hu
 rcases hu with rfl | rfl | rfl | rfl | rfl | rfl <;> rfl
structure SvAt (w : World) (lo hi : Nat) (s : Sv) (m : MS) : Prop where
 k : s.k = m.kind
 ed : s.ed = m.edge
 sl : s.sl = m.slot
 nx : s.nx = m.next
 ot : s.ot = m.other
 kr : 0 ≤ m.kind ∧ m.kind ≤ 4
 set : m.kind = 1 → ∃ (S : Spans) (bs : Nat), s.sn = S.length ∧ (S ≠ [] → s.sa = some ⟨bs, 0, none⟩ ∧ lo ≤ bs ∧ bs < hi) ∧ Cells32 w bs S ∧ SetOf S m.sp m.fo m.nt ∧ RuneSp S ∧ S.length ≤ 6000
theorem SvAt.kept {w w' : World} {lo hi : Nat} {s : Sv} {m : MS} {K : Nat → Prop} (h : SvAt w lo hi s m) (k : Kept K w w') (hs : ∀ i, lo ≤ i → i < hi → ¬ K i) (hle : hi ≤ w.heap.size) : SvAt w' lo hi s m :=
 ⟨h.k, h.ed, h.sl, h.nx, h.ot, h.kr, fun e => by
  obtain ⟨S, bs, a1, a2, a3, a4⟩ := h.set e
  refine ⟨S, bs, a1, a2, fun i hi' => ?_, a4⟩
  have hne : S ≠ [] := by intro e; subst e; simp at hi'
  obtain ⟨_, b1, b2⟩ := a2 hne
  exact ⟨(k.cell (p := ⟨bs, i * 2, none⟩) (by show bs < _; omega) (hs bs b1 b2)).trans (a3 i hi').1, (k.cell (p := ⟨bs, i * 2 + 1, none⟩) (by show bs < _; omega) (hs bs b1 b2)).trans (a3 i hi').2⟩⟩
structure BdAt (w : World) (b lo hi : Nat) (v : Value) (st : List MS) : Prop where
 blk : Blk w b #[v] 104
 row : ∃ vs : List Sv, w.ownsRow (b + 1) 108 6 v st.length (flatS vs) ∧ vs.length = st.length ∧ ∀ i, (h : i < vs.length) → (h' : i < st.length) → SvAt w lo hi vs[i] st[i]
 hib : hi ≤ b
 few : st.length ≤ 10000
def Own (b : Nat) (v : Value) : Nat → Prop := fun i => i = b ∨ v.ownBlock = some i
theorem BdAt.slice {w : World} {b lo hi : Nat} {v : Value} {st : List MS} (h : BdAt w b lo hi v st) : ∃ ao c, v = .slice ao st.length c := by
 obtain ⟨vs, h1, _⟩ := h.row
 exact ownsRow_slice h1
theorem BdAt.block {w : World} {b lo hi : Nat} {v : Value} {st : List MS} (h : BdAt w b lo hi v st) {i : Nat} (hi' : v.ownBlock = some i) : b + 1 ≤ i ∧ i < w.heap.size := by
 obtain ⟨vs, h1, _⟩ := h.row
 exact ownsRow_block h1 hi'
theorem BdAt.own {w : World} {b lo hi : Nat} {v : Value} {st : List MS} (h : BdAt w b lo hi v st) {i : Nat} (hi' : Own b v i) : b ≤ i ∧ i < w.heap.size := by
 rcases hi' with rfl | hi'
 ·exact ⟨Nat.le_refl _, h.blk.lt⟩
 ·have := h.block hi'; omega
theorem BdAt.kept {w w' : World} {b lo hi : Nat} {v : Value} {st : List MS} {K : Nat → Prop} (h : BdAt w b lo hi v st) (k : Kept K w w') (hK : ∀ i, K i → ¬ Own b v i ∧ (i < lo ∨ hi ≤ i)) : BdAt w' b lo hi v st where
 blk := h.blk.kept k (fun hx => (hK b hx).1 (Or.inl rfl))
 row := by
  obtain ⟨vs, h1, h2, h3⟩ := h.row
  refine ⟨vs, ownsRow_kept h1 k (fun i hi' hx => (hK i hx).1 (Or.inr hi')), h2, fun i a1 a2 => (h3 i a1 a2).kept k (fun j j1 j2 hx => by have := (hK j hx).2; omega) (by have := h.hib; have := h.blk.lt; omega)⟩
 hib := h.hib
 few := h.few
theorem BdAt.new {w w' : World} {b lo hi : Nat} {v : Value} {st : List MS} (h : BdAt w b lo hi v st) (k : Kept Nil w w') : BdAt w' b lo hi v st := h.kept k (fun i hx => hx.elim)
structure Went (b : Nat) (w w' : World) (v v' : Value) : Prop where
 kept : Kept (Own b v) w w'
 blk : ∀ i, v'.ownBlock = some i → v.ownBlock = some i ∨ w.heap.size ≤ i
theorem Went.refl (b : Nat) (w : World) (v : Value) : Went b w w v v := ⟨Kept.refl _ _, fun i h => Or.inl h⟩
theorem Went.trans {b : Nat} {w w1 w2 : World} {v v1 v2 : Value} (h : Went b w w1 v v1) (h' : Went b w1 w2 v1 v2) : Went b w w2 v v2 where
 kept := h.kept.trans' h'.kept (fun i hi hx => by
  rcases hx with rfl | hx
  ·exact Or.inl rfl
  ·rcases h.blk i hx with h1 | h1
   ·exact Or.inr h1
   ·omega)
 blk i hi := by
  have hs := h.kept.size
  rcases h'.blk i hi with h1 | h1
  ·exact h.blk i h1
  ·right; omega
theorem Went.new {b : Nat} {w w1 w2 : World} {v v1 : Value} (h : Went b w w1 v v1) (k : Kept Nil w1 w2) : Went b w w2 v v1 := ⟨h.kept.trans' k (fun i _ hx => hx.elim), h.blk⟩
theorem Went.alloc {b : Nat} {w w1 : World} {v v1 : Value} (h : Went b w w1 v v1) (o : Obj) : Went b w (w1.alloc o) v v1 := ⟨h.kept.alloc o, h.blk⟩
theorem Went.apart {b : Nat} {w w' : World} {v v' : Value} (h : Went b w w' v v') {c : Nat} (hc : c < w.heap.size) (hn : ¬ Own b v c) : ¬ Own b v' c := by
 intro hx
 rcases hx with rfl | hx
 ·exact hn (Or.inl rfl)
 ·rcases h.blk c hx with h1 | h1
  ·exact hn (Or.inr h1)
  ·omega
theorem Went.cells {b : Nat} {w w' : World} {v v' : Value} (h : Went b w w' v v') {c : Nat} {cs : Array Value} {t : TypeId} (hB : Blk w c cs t) (hn : ¬ Own b v c) : Blk w' c cs t := hB.kept h.kept hn
theorem Tryz.infoState : (Tryz.prog.info? 108).map (fun i => (i.zero, i.size, i.bytes)) = some (some (.agg #[.int .i64 0, .slice none 0 0, .int .i64 0, .int .i64 0, .int .i64 0, .int .i64 0]), 6, 64) := by kernel_rfl
theorem step_append_own {P : Program} {ops : Array Oper} {o : Oper} {a : Act} {w : World} {K : Act → World → Prop} {Q : Exit → Act → World → Prop} {E : Prop}
  (hg : o.guard = none) (s x : Operand) (t : TypeId) (hop : o.op = .call { callee := .builtin .append, args := #[s, x], argTypes := #[t, t] })
  (base : Nat) (e : TypeId) (i : TypeInfo) (z : Value) (size bytes : Nat) (ht : P.underlying t = some (.slice e)) (hi : P.info? e = some i) (hz : i.zero = some z) (hsize : i.size = size) (hby : i.bytes = bytes) (hzs : z.cells.size = size) (hsz : 0 < size)
  (v : Value) (n : Nat) (xs : List Value) (hs : a.eval s = v) (hown : w.ownsRow base e size v n xs)
  (ad : Addr) (m c : Nat) (news : List Value) (hx : a.eval x = .slice (some ad) m c) (hl : news.length = m * size) (hnews : ∀ j u, news[j]? = some u → w.cell? (ad.add j) = some u) (h1 : ∀ u ∈ news, u.oneCell' = true)
  (h63 : n + m ≤ maxLen) (hbytes : (n + m) * bytes ≤ 140737488355328) (hbase : base ≤ w.heap.size)
  (hK : ∀ v' w', w'.ownsRow base e size v' (n + m) (xs ++ news) → w.grownBy w' v.ownBlock → (v'.ownBlock = v.ownBlock ∨ v'.ownBlock = some w.heap.size) → K (a.put o.dst v') w') :
  if Region.wanted o (yielded ops a.tmps) = true then Oper.wp P o a w K Q else E := by
 have hw : Region.wanted o (yielded ops a.tmps) = true := by simp [Region.wanted, hg]
 rw [if_pos hw]
 obtain ⟨v', w', hr, h2, h3, h4, h5⟩ := run_append_own_at (P := P) w base t o.type e i z size bytes ht hi hz hsize hby hzs hsz v n xs hown ad m c news hl hnews h1 h63 hbytes hbase
 unfold Oper.wp
 simp [execOp, hop, resolve, invoke, builtin, hs, hx, hr, Result.andThen]
 exact hK v' w' h2 h3 h5
theorem BdAt.grown {w W w7 : World} {b lo hi ao c n : Nat} {v v' : Value} {st : List MS} (h : BdAt w b lo hi v st) {s : Sv} {m : MS} (hs : SvAt w lo hi s m) (hfew : st.length < 10000) {vs : List Sv} (hrow : w.ownsRow (b + 1) 108 6 v st.length (flatS vs)) (hlen : vs.length = st.length)
  (hsv : ∀ i, (h : i < vs.length) → (h' : i < st.length) → SvAt w lo hi vs[i] st[i]) (k0 : Kept Nil w W)
  (hown' : w7.ownsRow (b + 1) 108 6 v' (st.length + 1) (flatS vs ++ s.cells.toList)) (hgrow : W.grownBy w7 v.ownBlock) (hloc : v'.ownBlock = v.ownBlock ∨ v'.ownBlock = some W.heap.size) :
  Blk w7 b #[v] 104 ∧ BdAt (w7.setCell ⟨b, 0, none⟩ v') b lo hi v' (st ++ [m]) ∧ Went b w (w7.setCell ⟨b, 0, none⟩ v') v v' := by
 have hlt := h.blk.lt
 have hszW := k0.size
 have k7 : Kept (fun i => v.ownBlock = some i) w w7 := (k0.mono (fun i hx => hx.elim)).grown hgrow (fun j hj => Or.inl hj)
 have hbn : v.ownBlock ≠ some b := fun e => by have := ownsRow_block hrow e; omega
 have b7 : Blk w7 b #[v] 104 := h.blk.kept k7 hbn
 have hsz7 := k7.size
 have hloc' : ∀ i, v'.ownBlock = some i → v.ownBlock = some i ∨ w.heap.size ≤ i := by
  intro i hi'
  rcases hloc with hl | hl
  ·exact Or.inl (hl ▸ hi')
  ·rw [hl] at hi'; cases hi'; right; omega
 have hvb : v'.ownBlock ≠ some b := fun e => by
  rcases hloc' b e with h1 | h1
  ·exact hbn h1
  ·omega
 have b8 : Blk (w7.setCell ⟨b, 0, none⟩ v') b #[v'] 104 := b7.setCell 0 v'
 have k8 : Kept (Own b v) w (w7.setCell ⟨b, 0, none⟩ v') := Kept.setCell (S := Own b v) (k7.mono (S' := Own b v) (fun i hi' => Or.inr hi')) (p := ⟨b, 0, none⟩) (Or.inl (Or.inl rfl)) _
 have o8 : (w7.setCell ⟨b, 0, none⟩ v').ownsRow (b + 1) 108 6 v' (st ++ [m]).length (flatS (vs ++ [s])) := by
  have h1 : (flatS (vs ++ [s])) = flatS vs ++ s.cells.toList := by rw [flatS_append]; simp [flatS]
  rw [h1, List.length_append]
  exact ownsRow_kept hown' ((Kept.refl (fun i => i = b) w7).setCell (p := ⟨b, 0, none⟩) (Or.inl rfl) v') (fun i hi' e => hvb (e ▸ hi'))
 have hib := h.hib
 have hnot : ∀ i, lo ≤ i → i < hi → ¬ Own b v i := fun i h1 h2 hx => by have := h.own hx; omega
 refine ⟨b7, ?_, ⟨k8, hloc'⟩⟩
 refine ⟨b8, ⟨vs ++ [s], o8, by simp [hlen], fun i h1 h2 => ?_⟩, hib, by simp; omega⟩
 by_cases hlt2 : i < st.length
 ·have e1 : (vs ++ [s])[i] = vs[i]'(by omega) := List.getElem_append_left _
  have e2 : (st ++ [m])[i] = st[i] := List.getElem_append_left _
  rw [e1, e2]
  exact (hsv i (by omega) hlt2).kept k8 hnot (by omega)
 ·have e : i = st.length := by simp at h2; omega
  subst e
  have e1 : (vs ++ [s])[st.length] = s := by simp [← hlen]
  have e2 : (st ++ [m])[st.length] = m := by simp
  rw [e1, e2]
  exact hs.kept k8 hnot (by omega)
theorem sv_news {w : World} (q : Sv) (j : Nat) (u : Value) (h : q.cells.toList[j]? = some u) : (w.alloc (.cells q.cells 108)).cell? (Addr.add ⟨w.heap.size, 0, none⟩ j) = some u := new32 w q.cells 108 j u h
theorem add_rd {w : World} {b lo hi : Nat} {v : Value} {st : List MS} (h : BdAt w b lo hi v st) {s : Sv} {m : MS} (hs : SvAt w lo hi s m) (hfew : st.length < 10000) :
  Calls Tryz.prog 40 #[.pointer (some ⟨b, 0, none⟩), Sv.val s] w fun e w' => e = .returned (.int .i64 st.length) ∧ ∃ v', BdAt w' b lo hi v' (st ++ [m]) ∧ Went b w w' v v' := by
 obtain ⟨i0, hi0, hz0, hz1, hz2⟩ := info_parts Tryz.infoState
 obtain ⟨ao, c, hv⟩ := h.slice
 have hlt := h.blk.lt
 obtain ⟨vs, hrow, hlen, hsv⟩ := h.row
 have c0 : w.cell? ⟨b, 0, none⟩ = some v := h.blk.cell 0
 have f0 : w.frozen? ⟨b, 0, none⟩ = false := h.blk.frozen 0
 have HR : Hid (∀ W, Kept Nil w W → W.ownsRow (b + 1) 108 6 v st.length (flatS vs)) := fun W k => ownsRow_kept hrow k (fun i _ hx => hx)
 have GR : Hid (∀ W w7 v', Kept Nil w W → w7.ownsRow (b + 1) 108 6 v' (st.length + 1) (flatS vs ++ s.cells.toList) → W.grownBy w7 v.ownBlock → (v'.ownBlock = v.ownBlock ∨ v'.ownBlock = some W.heap.size) → Blk w7 b #[v] 104 ∧ BdAt (w7.setCell ⟨b, 0, none⟩ v') b lo hi v' (st ++ [m]) ∧ Went b w (w7.setCell ⟨b, 0, none⟩ v') v v') :=
  fun W w7 v' k h1 h2 h3 => h.grown (ao := 0) (c := 0) (n := 0) hs hfew hrow hlen hsv k h1 h2 h3
 have NW : Hid (∀ j u, s.cells.toList[j]? = some u → (((w.alloc (.cells s.cells 108)).alloc (.cells s.cells 108)).drew).cell? (Addr.add ⟨w.heap.size + 1, 0, none⟩ j) = some u) := by
  intro j u hu
  have := sv_news (w := w.alloc (.cells s.cells 108)) s j u hu
  simpa using this
 clear h hs hsv hrow
 subst hv
 simp only [Sv.val, Sv.cells]
 go_enter Tryz.func40, Tryz.ntmps40
 go_wp2_with fail
 go_region_law (refine step_append_own rfl (.tmp 9) (.tmp 11) 63 rfl (b + 1) 108 i0 _ 6 64 Tryz.underlying63 hi0 hz0 hz1 hz2 rfl (by decide) _ _ _ rfl (HR.out _ (by repeat first | exact Kept.refl _ _ | apply Kept.alloc | apply Kept.drew | apply Kept.drewN)) ⟨w.heap.size + 1, 0, none⟩ 1 1 s.cells.toList rfl rfl NW.out s.one (by unfold maxLen; omega) (by omega) (by simp; omega) ?_; intro v' w7 ho hg hl; obtain ⟨ao', c', rfl⟩ := ownsRow_slice ho; obtain ⟨b7, fin, went⟩ := GR.out _ _ _ (by repeat first | exact Kept.refl _ _ | apply Kept.alloc | apply Kept.drew | apply Kept.drewN) ho hg hl; have c7 : w7.cell? ⟨b, 0, none⟩ = some (.slice ao st.length c) := b7.cell 0; have f7 : w7.frozen? ⟨b, 0, none⟩ = false := b7.frozen 0)
 all_goals
  clear HR GR NW
  go_wp2_with fail
  go_ret
  exact ⟨rfl, _, fin, went⟩
set_option maxRecDepth 100000
theorem size_alloc0 (w : World) (o : Obj) : (w.alloc o).heap.size = w.heap.size + 1 := by simp
theorem hid {p : Prop} (h : p) : Hid p := h
def exV (x : Ex) : Value := .agg #[.int .i64 x.1, .int .i64 x.2]
def Bdone (w : World) (b lo hi : Nat) (v : Value) (st' : List MS) (r : Value) : Ending → World → Prop := fun e w' => e = .returned r ∧ ∃ v', BdAt w' b lo hi v' st' ∧ Went b w w' v v'
theorem SvAt.fork (w : World) (lo hi : Nat) (a b : Int) : SvAt w lo hi ⟨4, none, 0, 0, 0, 0, a, b⟩ (forkS a b) := ⟨rfl, rfl, rfl, rfl, rfl, by simp [forkS], fun e => by simp [forkS] at e⟩
def exB (x : Ex) : Array Value := #[.int .i64 x.1, .int .i64 x.2]
structure Loc (w : World) (b : Nat) (v : Value) (c : Nat) (cs : Array Value) (t : TypeId) : Prop where
 blk : Blk w c cs t
 not : ¬ Own b v c
theorem Loc.went {w w' : World} {b c : Nat} {v v' : Value} {cs : Array Value} {t : TypeId} (h : Loc w b v c cs t) (k : Went b w w' v v') : Loc w' b v' c cs t := ⟨k.cells h.blk h.not, k.apart h.blk.lt h.not⟩
theorem BdAt.fresh {w : World} {b lo hi : Nat} {v : Value} {st : List MS} (h : BdAt w b lo hi v st) {c : Nat} (hc : w.heap.size ≤ c) : ¬ Own b v c := fun hx => by have := h.own hx; omega
theorem Loc.new {w : World} {b lo hi : Nat} {v : Value} {st : List MS} (h : BdAt w b lo hi v st) (cs : Array Value) (t : TypeId) : Loc (w.alloc (.cells cs t)) b v w.heap.size cs t := ⟨Blk.new w cs t, h.fresh (Nat.le_refl _)⟩
theorem Loc.alloc {w : World} {b c : Nat} {v : Value} {cs : Array Value} {t : TypeId} (h : Loc w b v c cs t) (o : Obj) : Loc (w.alloc o) b v c cs t := ⟨h.blk.alloc o, h.not⟩
theorem Loc.setCell {w : World} {b c : Nat} {v : Value} {cs : Array Value} {t : TypeId} (h : Loc w b v c cs t) (i : Nat) (u : Value) : Loc (w.setCell ⟨c, i, none⟩ u) b v c (cs.setIfInBounds i u) t := ⟨h.blk.setCell i u, h.not⟩
theorem Loc.other {w : World} {b c : Nat} {v : Value} {cs : Array Value} {t : TypeId} (h : Loc w b v c cs t) {d : Nat} (hd : c ≠ d) (i : Nat) (u : Value) : Loc (w.setCell ⟨d, i, none⟩ u) b v c cs t := ⟨h.blk.setCell_other hd u, h.not⟩
theorem BdAt.set {w : World} {b lo hi : Nat} {v : Value} {st : List MS} (h : BdAt w b lo hi v st) {c : Nat} (hc : ¬ Own b v c) (hbc : b ≤ c) (j : Nat) (u : Value) : BdAt (w.setCell ⟨c, j, none⟩ u) b lo hi v st :=
 h.kept ((Kept.refl (fun i => i = c) w).setCell (p := ⟨c, j, none⟩) (Or.inl rfl) u) (fun i hi' => by subst hi'; exact ⟨hc, Or.inr (by have := h.hib; omega)⟩)
theorem BdAt.alloc {w : World} {b lo hi : Nat} {v : Value} {st : List MS} (h : BdAt w b lo hi v st) (o : Obj) : BdAt (w.alloc o) b lo hi v st := h.new ((Kept.refl _ _).alloc o)
theorem Went.set {b : Nat} {w w1 : World} {v v1 : Value} (h : Went b w w1 v v1) {c : Nat} (hc : w.heap.size ≤ c) (j : Nat) (u : Value) : Went b w (w1.setCell ⟨c, j, none⟩ u) v v1 := ⟨h.kept.setCell (p := ⟨c, j, none⟩) (Or.inr hc) u, h.blk⟩
theorem exits_ret {f : Func} {Q : Ending → World → Prop} {a : Act} {W : World} {c i : Nat} {x : Ex} (hres : f.results = #[ResultVar.cell i 110]) (hslot : a.tmps.getD i undef = .pointer (some ⟨c, 0, none⟩)) (hd : a.defers = [])
  (hb : Blk W c (exB x) 110) (hQ : Q (.returned (exV x)) W) : bodyPost Tryz.prog f Q Exit.ret a W := by
 have r0 : W.cell? ⟨c, 0, none⟩ = some (.int .i64 x.1) := hb.cell 0
 have r1 : W.cell? ⟨c, 1, none⟩ = some (.int .i64 x.2) := hb.cell 1
 have hs2 : a.tmps[i]?.getD undef = .pointer (some ⟨c, 0, none⟩) := by simpa using hslot
 exact bodyPost_ret (v := exV x) (by simp [results, hres, go_sem, hs2, r0, r1, exV]) hd hQ
theorem forkOne_rd {w : World} {b lo hi : Nat} {v : Value} {st : List MS} (h : BdAt w b lo hi v st) (x y : Int) (hfew : st.length < 10000) :
  Calls Tryz.prog 123 #[.pointer (some ⟨b, 0, none⟩), .int .i64 x, .int .i64 y] w (Bdone w b lo hi v (bForkOne st x y).1 (.int .i64 (bForkOne st x y).2)) := by
 unfold Bdone bForkOne
 by_cases hx : x = -1
 ·have hb : (x == -1) = true := by simp [hx]
  simp only [if_pos hx]
  clear hx
  go_enter Tryz.func123, Tryz.ntmps123
  go_wp2_with fail
  go_ret
  exact ⟨rfl, v, h.new (Kept.refl _ _), Went.refl _ _ _⟩
 ·have hb : (x == -1) = false := by simp [hx]
  simp only [if_neg hx]
  by_cases hy : y = -1
  ·have hb2 : (y == -1) = true := by simp [hy]
   simp only [if_pos hy]
   clear hy hx
   go_enter Tryz.func123, Tryz.ntmps123
   go_wp2_with fail
   go_ret
   exact ⟨rfl, v, h.new (Kept.refl _ _), Went.refl _ _ _⟩
  ·have hb2 : (y == -1) = false := by simp [hy]
   simp only [if_neg hy]
   have HA0 := add_rd h (SvAt.fork w lo hi x y) hfew
   simp only [Sv.val, Sv.cells] at HA0
   have HA := hid HA0
   clear HA0
   clear hy hx h
   go_enter Tryz.func123, Tryz.ntmps123
   go_wp2_with fail
   refine (HA.out).mono ?_
   rintro e w1 ⟨rfl, v1, h1, k1⟩
   go_wp2_with fail
   go_ret
   exact ⟨rfl, v1, h1, k1⟩
theorem exits_fin {f : Func} {a : Act} {w w4 : World} {b lo hi c i : Nat} {v v4 : Value} {st4 : List MS} {r1 r2 z1 z2 : Int} (a1 : BdAt w4 b lo hi v4 st4) (a2 : Went b w w4 v v4) (a3 : Loc w4 b v4 c #[.int .i64 z1, .int .i64 z2] 110) (hc : w.heap.size ≤ c) (hbc : b ≤ c)
  (hres : f.results = #[ResultVar.cell i 110]) (hslot : a.tmps.getD i undef = .pointer (some ⟨c, 0, none⟩)) (hd : a.defers = []) :
  bodyPost Tryz.prog f (Bdone w b lo hi v st4 (exV (r1, r2))) Exit.ret a ((w4.setCell ⟨c, 0, none⟩ (.int .i64 r1)).setCell ⟨c, 1, none⟩ (.int .i64 r2)) := by
 refine exits_ret hres hslot hd (x := (r1, r2)) ?_ ?_
 ·exact ((a3.setCell 0 (.int .i64 r1)).setCell 1 (.int .i64 r2)).blk
 ·exact ⟨rfl, v4, (a1.set a3.not hbc 0 _).set a3.not hbc 1 _, (a2.set hc 0 _).set hc 1 _⟩
theorem Loc.two {w : World} {b c : Nat} {v : Value} {p q : Int} {t : TypeId} (h : Loc w b v c #[.int .i64 p, .int .i64 q] t) : w.cell? ⟨c, 0, none⟩ = some (.int .i64 p) ∧ w.cell? ⟨c, 1, none⟩ = some (.int .i64 q) ∧ w.frozen? ⟨c, 0, none⟩ = false ∧ w.frozen? ⟨c, 1, none⟩ = false := ⟨h.blk.cell 0, h.blk.cell 1, h.blk.frozen 0, h.blk.frozen 1⟩
theorem fork_rd {w : World} {b lo hi : Nat} {v : Value} {st : List MS} (h : BdAt w b lo hi v st) (x y : Ex) (hfew : st.length + 2 ≤ 10000) :
  Calls Tryz.prog 94 #[.pointer (some ⟨b, 0, none⟩), exV x, exV y] w (Bdone w b lo hi v (bFork st x y).1 (exV (bFork st x y).2)) := by
 have hlt := h.blk.lt
 have g1 := forkOne_grow st x.2 y.2
 obtain ⟨x1, x2⟩ := x
 obtain ⟨y1, y2⟩ := y
 simp only at g1
 have l1 := ((Loc.new h (exB (x1, x2)) 110).alloc (.cells (exB (y1, y2)) 110)).alloc (.cells (exB (0, 0)) 110)
 have h1 := h.alloc (.cells (exB (x1, x2)) 110)
 have l2 := (Loc.new h1 (exB (y1, y2)) 110).alloc (.cells (exB (0, 0)) 110)
 have h2 := h1.alloc (.cells (exB (y1, y2)) 110)
 have l3 := Loc.new h2 (exB (0, 0)) 110
 have h3 := h2.alloc (.cells (exB (0, 0)) 110)
 have W3 := (((Went.refl b w v).alloc (.cells (exB (x1, x2)) 110)).alloc (.cells (exB (y1, y2)) 110)).alloc (.cells (exB (0, 0)) 110)
 have F1 := hid (forkOne_rd h3 x2 y2 (by omega))
 simp only [exB, size_alloc0] at l1 l2 l3 h3 W3 F1
 clear h h1 h2
 simp only [exV]
 unfold bFork
 simp only
 by_cases c : x1 = x2 ∧ y1 = y2
 ·have d1 : (x1 == x2) = true := by simp [c.1]
  have d2 : (y1 == y2) = true := by simp [c.2]
  simp only [if_pos c]
  clear c
  go_enter Tryz.func94, Tryz.ntmps94
  go_wp2_with fail
  refine (F1.out).mono ?_
  rintro e w4 ⟨rfl, v4, h4, k4⟩
  obtain ⟨m1, m2, m3⟩ := And.intro (l1.went k4) (And.intro (l2.went k4) (l3.went k4))
  have k5 := W3.trans k4
  obtain ⟨a0, a1, _, _⟩ := m1.two
  obtain ⟨b0, b1, _, _⟩ := m2.two
  obtain ⟨c0, c1, f0, f1⟩ := m3.two
  have FIN := hid (And.intro h4 (And.intro k5 m3))
  clear l1 l2 l3 h3 F1 m1 m2 m3 h4 k4 k5 W3
  go_wp2_with fail
  exact exits_fin FIN.out.1 FIN.out.2.1 FIN.out.2.2 (by omega) (by omega) Tryz.results94 rfl rfl
 ·simp only [if_neg c]
  have g2 := forkOne_grow (bForkOne st x2 y2).1 x1 y1
  by_cases e1 : x1 = x2
  ·have e2 : y1 ≠ y2 := fun e => c ⟨e1, e⟩
   have d1 : (x1 == x2) = true := by simp [e1]
   have d2 : (y1 == y2) = false := by simp [e2]
   clear c e1 e2
   go_enter Tryz.func94, Tryz.ntmps94
   go_wp2_with fail
   refine (F1.out).mono ?_
   rintro e w4 ⟨rfl, v4, h4, k4⟩
   obtain ⟨m1, m2, m3⟩ := And.intro (l1.went k4) (And.intro (l2.went k4) (l3.went k4))
   have k5 := W3.trans k4
   obtain ⟨a0, a1, _, _⟩ := m1.two
   obtain ⟨b0, b1, _, _⟩ := m2.two
   have F2 := hid (forkOne_rd h4 x1 y1 (by omega))
   have FIN := hid (And.intro k5 m3)
   clear l1 l2 l3 h3 F1 m1 m2 m3 h4 k4 k5 W3
   go_wp2_with fail
   refine (F2.out).mono ?_
   rintro e w6 ⟨rfl, v6, h6, k6⟩
   have m6 := FIN.out.2.went k6
   obtain ⟨c0, c1, f0, f1⟩ := m6.two
   have FIN2 := hid (And.intro h6 (And.intro (FIN.out.1.trans k6) m6))
   clear h6 k6 m6 FIN F2
   go_wp2_with fail
   exact exits_fin FIN2.out.1 FIN2.out.2.1 FIN2.out.2.2 (by omega) (by omega) Tryz.results94 rfl rfl
  ·have d1 : (x1 == x2) = false := by simp [e1]
   clear c e1
   go_enter Tryz.func94, Tryz.ntmps94
   go_wp2_with fail
   refine (F1.out).mono ?_
   rintro e w4 ⟨rfl, v4, h4, k4⟩
   obtain ⟨m1, m2, m3⟩ := And.intro (l1.went k4) (And.intro (l2.went k4) (l3.went k4))
   have k5 := W3.trans k4
   obtain ⟨a0, a1, _, _⟩ := m1.two
   obtain ⟨b0, b1, _, _⟩ := m2.two
   have F2 := hid (forkOne_rd h4 x1 y1 (by omega))
   have FIN := hid (And.intro k5 m3)
   clear l1 l2 l3 h3 F1 m1 m2 m3 h4 k4 k5 W3
   go_wp2_with fail
   refine (F2.out).mono ?_
   rintro e w6 ⟨rfl, v6, h6, k6⟩
   have m6 := FIN.out.2.went k6
   obtain ⟨c0, c1, f0, f1⟩ := m6.two
   have FIN2 := hid (And.intro h6 (And.intro (FIN.out.1.trans k6) m6))
   clear h6 k6 m6 FIN F2
   go_wp2_with fail
   exact exits_fin FIN2.out.1 FIN2.out.2.1 FIN2.out.2.2 (by omega) (by omega) Tryz.results94 rfl rfl
theorem either_rd {w : World} {b lo hi : Nat} {v : Value} {st : List MS} (h : BdAt w b lo hi v st) (lz : Bool) (x y : Ex) (hfew : st.length + 2 ≤ 10000) :
  Calls Tryz.prog 124 #[.pointer (some ⟨b, 0, none⟩), .bool lz, exV x, exV y] w (Bdone w b lo hi v (bEither lz st x y).1 (exV (bEither lz st x y).2)) := by
 have hlt := h.blk.lt
 obtain ⟨x1, x2⟩ := x
 obtain ⟨y1, y2⟩ := y
 have l1 := ((Loc.new h (exB (x1, x2)) 110).alloc (.cells (exB (y1, y2)) 110)).alloc (.cells (exB (0, 0)) 110)
 have h1 := h.alloc (.cells (exB (x1, x2)) 110)
 have l2 := (Loc.new h1 (exB (y1, y2)) 110).alloc (.cells (exB (0, 0)) 110)
 have h2 := h1.alloc (.cells (exB (y1, y2)) 110)
 have l3 := Loc.new h2 (exB (0, 0)) 110
 have h3 := h2.alloc (.cells (exB (0, 0)) 110)
 have W3 := (((Went.refl b w v).alloc (.cells (exB (x1, x2)) 110)).alloc (.cells (exB (y1, y2)) 110)).alloc (.cells (exB (0, 0)) 110)
 have F1 := fork_rd h3 (x1, x2) (y1, y2) (by omega)
 have F2 := fork_rd h3 (y1, y2) (x1, x2) (by omega)
 simp only [exB, exV, size_alloc0] at l1 l2 l3 h3 W3 F1 F2
 have F1 := hid F1
 have F2 := hid F2
 clear h h1 h2
 simp only [exV]
 unfold bEither
 cases lz
 ·simp only [Bool.false_eq_true, if_false]
  go_enter Tryz.func124, Tryz.ntmps124
  go_wp2_with fail
  refine (F1.out).mono ?_
  rintro e w4 ⟨rfl, v4, h4, k4⟩
  obtain ⟨c0, c1, f0, f1⟩ := (l3.went k4).two
  have FIN := hid (And.intro h4 (And.intro (W3.trans k4) (l3.went k4)))
  clear l1 l2 l3 h3 F1 F2 h4 k4 W3
  go_wp2_with fail
  exact exits_fin FIN.out.1 FIN.out.2.1 FIN.out.2.2 (by omega) (by omega) Tryz.results124 rfl rfl
 ·simp only [if_true]
  go_enter Tryz.func124, Tryz.ntmps124
  go_wp2_with fail
  refine (F2.out).mono ?_
  rintro e w4 ⟨rfl, v4, h4, k4⟩
  obtain ⟨c0, c1, f0, f1⟩ := (l3.went k4).two
  have FIN := hid (And.intro h4 (And.intro (W3.trans k4) (l3.went k4)))
  clear l1 l2 l3 h3 F1 F2 h4 k4 W3
  go_wp2_with fail
  exact exits_fin FIN.out.1 FIN.out.2.1 FIN.out.2.2 (by omega) (by omega) Tryz.results124 rfl rfl
def Sv.nxt (s : Sv) (n : Int) : Sv := { s with nx := n }
theorem Loc.six {w : World} {b c : Nat} {v : Value} {s : Sv} {t : TypeId} (h : Loc w b v c s.cells t) : (w.cell? ⟨c, 0, none⟩ = some (.int .i64 s.k) ∧ w.cell? ⟨c, 1, none⟩ = some (.slice s.sa s.sn s.sc) ∧ w.cell? ⟨c, 2, none⟩ = some (.int .i64 s.ed) ∧ w.cell? ⟨c, 3, none⟩ = some (.int .i64 s.sl) ∧ w.cell? ⟨c, 4, none⟩ = some (.int .i64 s.nx) ∧ w.cell? ⟨c, 5, none⟩ = some (.int .i64 s.ot)) ∧ w.frozen? ⟨c, 4, none⟩ = false :=
 ⟨⟨h.blk.cell 0, h.blk.cell 1, h.blk.cell 2, h.blk.cell 3, h.blk.cell 4, h.blk.cell 5⟩, h.blk.frozen 4⟩
theorem lead_rd {w : World} {b lo hi : Nat} {v : Value} {st : List MS} (h : BdAt w b lo hi v st) (s : Sv) (mk : Int → MS) (HS : ∀ W n, SvAt W lo hi (s.nxt n) (mk n)) (x : Ex) (hfew : st.length + 2 ≤ 10000) :
  Calls Tryz.prog 61 #[.pointer (some ⟨b, 0, none⟩), Sv.val s, exV x] w (Bdone w b lo hi v (bLead mk st x).1 (exV (bLead mk st x).2)) := by
 have hlt := h.blk.lt
 obtain ⟨x1, x2⟩ := x
 have l1' := (((Loc.new h (s.nxt x2).cells 108).alloc (.cells (exB (x1, x2)) 110)).alloc (.cells (exB (0, 0)) 110))
 have h1 := h.alloc (.cells (s.nxt x2).cells 108)
 have l2' := (Loc.new h1 (exB (x1, x2)) 110).alloc (.cells (exB (0, 0)) 110)
 have h2 := h1.alloc (.cells (exB (x1, x2)) 110)
 have l3' := Loc.new h2 (exB (0, 0)) 110
 have h3' := h2.alloc (.cells (exB (0, 0)) 110)
 have W3' := (((Went.refl b w v).alloc (.cells (s.nxt x2).cells 108)).alloc (.cells (exB (x1, x2)) 110)).alloc (.cells (exB (0, 0)) 110)
 have F1 := add_rd h3' (HS _ x2) (by omega)
 simp only [exB, size_alloc0] at l2' l3'
 simp only [Sv.val, Sv.cells, Sv.nxt, exB] at F1
 clear h h1 h2
 have F1 := hid F1
 have L1 := hid l1'
 have PK := hid (And.intro l2' (And.intro l3' W3'))
 clear l1' l2' l3' h3' W3'
 simp only [exV, Sv.val, Sv.cells]
 unfold bLead
 simp only
 by_cases c1 : x1 = x2
 ·have d1 : (x1 == x2) = true := by simp [c1]
  simp only [if_pos c1]
  clear c1
  go_enter Tryz.func61, Tryz.ntmps61
  go_wp2_with fail
  refine (F1.out).mono ?_
  rintro e w4 ⟨rfl, v4, h4, k4⟩
  obtain ⟨l2, l3, W3⟩ := PK.out
  obtain ⟨a0, a1, _, _⟩ := (l2.went k4).two
  obtain ⟨c0, c1, f0, f1⟩ := (l3.went k4).two
  have FIN := hid (And.intro h4 (And.intro (W3.trans k4) (l3.went k4)))
  clear l2 l3 h4 k4 W3 F1 PK L1
  go_wp2_with fail
  exact exits_fin FIN.out.1 FIN.out.2.1 FIN.out.2.2 (by omega) (by omega) Tryz.results61 rfl rfl
 ·have d1 : (x1 == x2) = false := by simp [c1]
  simp only [if_neg c1]
  clear c1
  by_cases c2 : x1 = -1
  ·have d2 : (x1 == -1) = true := by simp [c2]
   simp only [if_pos c2]
   clear c2
   go_enter Tryz.func61, Tryz.ntmps61
   go_wp2_with fail
   refine (F1.out).mono ?_
   rintro e w4 ⟨rfl, v4, h4, k4⟩
   obtain ⟨l2, l3, W3⟩ := PK.out
   obtain ⟨a0, a1, _, _⟩ := (l2.went k4).two
   obtain ⟨c0, c1, f0, f1⟩ := (l3.went k4).two
   have FIN := hid (And.intro h4 (And.intro (W3.trans k4) (l3.went k4)))
   clear l2 l3 h4 k4 W3 F1 PK L1
   go_wp2_with fail
   exact exits_fin FIN.out.1 FIN.out.2.1 FIN.out.2.2 (by omega) (by omega) Tryz.results61 rfl rfl
  ·have d2 : (x1 == -1) = false := by simp [c2]
   simp only [if_neg c2]
   clear c2
   go_enter Tryz.func61, Tryz.ntmps61
   go_wp2_with fail
   refine (F1.out).mono ?_
   rintro e w4 ⟨rfl, v4, h4, k4⟩
   obtain ⟨l2, l3, W3⟩ := PK.out
   obtain ⟨a0, a1, _, _⟩ := (l2.went k4).two
   have L4 := L1.out.went k4
   obtain ⟨⟨b0, b1, b2, b3, b4, b5⟩, b6⟩ := L4.six
   simp only [Sv.nxt] at b0 b1 b2 b3 b4 b5
   have h5 := h4.set L4.not (by omega) 4 (.int .i64 x1)
   have W5 := (W3.trans k4).set (c := w.heap.size) (Nat.le_refl _) 4 (.int .i64 x1)
   have l5 := (l3.went k4).other (d := w.heap.size) (by omega) 4 (.int .i64 x1)
   have F2 := add_rd h5 (HS _ x1) (by simp; omega)
   simp only [Sv.val, Sv.cells, Sv.nxt] at F2
   have F2 := hid F2
   have PK2 := hid (And.intro W5 l5)
   clear l2 l3 h4 k4 W3 F1 PK L1 L4 h5 W5 l5
   go_wp2_with fail
   refine (F2.out).mono ?_
   rintro e w6 ⟨rfl, v6, h6, k6⟩
   obtain ⟨W5, l5⟩ := PK2.out
   have l6 := l5.went k6
   obtain ⟨c0, c1, f0, f1⟩ := l6.two
   have FIN := hid (And.intro h6 (And.intro (W5.trans k6) l6))
   clear h6 k6 W5 l5 l6 F2 PK2
   go_wp2_with fail
   exact exits_fin FIN.out.1 FIN.out.2.1 FIN.out.2.2 (by omega) (by omega) Tryz.results61 rfl rfl
end Go.Proofs.YtfollffpibmgcaaGreatDoor
