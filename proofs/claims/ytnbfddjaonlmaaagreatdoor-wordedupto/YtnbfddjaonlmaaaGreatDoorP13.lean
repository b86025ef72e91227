/- The program: newReader: the reader of a text of at most 300 bytes. -/
import Derived.Test.YtnbfddjaonlmaaaGreatDoorP12
import Derived.Lib.OthersKept
import Derived.Lib.TrimU
namespace Go.Proofs.YtnbfddjaonlmaaaGreatDoor
open Go.RowKit Go.Maps
set_option linter.unusedVariables false
set_option maxRecDepth 100000

/-- the runes of a text from a place on, with their places -/
def scanFrom (s : ByteArray) : Nat → Nat → List (Nat × Int)
  | 0, _ => []
  | m + 1, pos => if pos < s.size then (pos, ((Utf8.decode s pos).1 : Int)) :: scanFrom s m (pos + (Utf8.decode s pos).2) else []
def isBad (s : ByteArray) (p : Nat × Int) : Bool := p.2 == 65533 && !(Lib.hasPrefix (s.extract p.1 s.size).data.toList [239, 191, 189])
def flt0 : Flt := ⟨none, none, none, none, none, none⟩
def fltOf (s : ByteArray) (l : List (Nat × Int)) : Flt := l.foldl (fun F p => if isBad s p then F.note 2 p.1 else F) flt0
theorem fltOf_snoc (s : ByteArray) (l : List (Nat × Int)) (p : Nat × Int) : fltOf s (l ++ [p]) = if isBad s p then (fltOf s l).note 2 p.1 else fltOf s l := by simp [fltOf]
theorem decode_pos (s : ByteArray) (pos : Nat) (h : pos < s.size) : 1 ≤ (Utf8.decode s pos).2 := by
  by_cases ha : (s[pos]'h).toNat < 128
  · rw [decode_ascii s pos h ha]; exact Nat.le_refl _
  · exact (decode_high s pos h (by omega)).2
theorem scanFrom_end (s : ByteArray) (m pos : Nat) (h : ¬ pos < s.size) : scanFrom s m pos = [] := by
  cases m with
  | zero => rfl
  | succ m => unfold scanFrom; rw [if_neg h]

theorem scan_rune (s : ByteArray) : ∀ (m pos : Nat) (p : Nat × Int), p ∈ scanFrom s m pos → 0 ≤ p.2 ∧ p.2 ≤ 1114111
  | 0, _, p, h => by simp [scanFrom] at h
  | m + 1, pos, p, h => by
    unfold scanFrom at h
    split at h
    · rcases List.mem_cons.1 h with rfl | h
      · have := Lib.rune_le s pos; simp only; omega
      · exact scan_rune s m _ p h
    · simp at h

/-- note, of a reader that is not whole yet -/
theorem note_core {w : World} {b bf : Nat} {F : Flt} {D : DataW Unit} (c3 : w.cell? ⟨b, 3, none⟩ = some (.map (some bf))) (hD : w.ownsMap Tryz.prog 27 (plainElem (H := Unit) Tryz.prog 3) bf (Maps.size D) D) (hF : FMap D F) (e p : Int) (he : 2 ≤ e ∧ e ≤ 7) (hp : 0 ≤ p ∧ p ≤ 300) :
    Calls Tryz.prog 30 #[.pointer (some ⟨b, 0, none⟩), .int .i64 e, .int .i64 p] w fun en w' => en = .returned (.tuple #[]) ∧ (∃ D', w'.ownsMap Tryz.prog 27 (plainElem (H := Unit) Tryz.prog 3) bf (Maps.size D') D' ∧ FMap D' (F.note e p)) ∧ Kept (fun i => i = bf) w w' := by
  have hkey : keyOf Tryz.prog 27 (.int .i64 e) = some (.int .i64 e) := keyOf_int_mk Tryz.underlying27 (WalkArith.wf_i64 (by omega))
  have hsz : Maps.size D < maxLen := by rw [hF.size]; have := F.cnt_le; unfold maxLen; omega
  go_enter Tryz.func30, Tryz.ntmps30
  go_wp2_with (first | (at_lookup; refine wpList_lookup_own_ok_int _ rfl _ _ 78 rfl 27 3 .i64 lawErr Tryz.underlying78 Tryz.underlying3 (zeroInt _) bf _ D rfl hD _ _ rfl hkey ?_; intro c hat hwc) | (at_mapUpdate; refine wpList_mapUpdate_own _ rfl _ _ _ 78 rfl 27 3 lawErr Tryz.underlying78 _ bf _ _ rfl hD hsz _ _ _ rfl rfl hkey _ [] (plainElem_int Tryz.underlying3 (WalkArith.wf_i64 (by omega))) ?_; intro w1 hown1 hgrow1))
  · have hno : has D (.int .i64 e) = false := by have : (!has D (.int .i64 e)) = true := by assumption
                                                 simpa using this
    rw [hF.has] at hno
    have hF' := hF.put (hD.tidy lawErr) e p he hno
    go_end0
    refine ⟨rfl, ⟨D.put (.int .i64 e) (.lit (.int .i64 p)), ?_, ?_⟩, (Kept.refl _ _).grown (by assumption) (fun k hk => Or.inl (by cases hk; rfl))⟩
    · have e1 : Maps.size (D.put (.int .i64 e) (.lit (.int .i64 p))) = Maps.size D + 1 := by rw [hF'.size, hF.size, Flt.cnt_put _ _ _ he hno]
      rw [e1]
      assumption
    · have hn : F.note e p = F.put e p := by simp [Flt.note, hno]
      rw [hn]; exact hF'
  · have hyes : has D (.int .i64 e) = true := by have : (!has D (.int .i64 e)) = false := by assumption
                                                 simpa using this
    rw [hF.has] at hyes
    go_end0
    refine ⟨rfl, ⟨D, hD, ?_⟩, Kept.refl _ _⟩
    have hn : F.note e p = F := by simp [Flt.note, hyes]
    rw [hn]; exact hF

/-- a reader that is being made: so many runes and places lie in it -/
structure Nr (w w0 : World) (s : ByteArray) (vr vp : Value) (rs ps : List Int) (F : Flt) (pos : Nat) : Prop where
  iter : w.heap[w0.heap.size + 1 + 1 + 1]? = some (.stringIter s pos)
  blk : Blk w (w0.heap.size + 1 + 1) #[vr, vp, .int .i64 0, .map (some w0.heap.size), .bool false, .int .i64 0, .map (some (w0.heap.size + 1))] 80
  runes : w.ownsRow (w0.heap.size + 4) 21 1 vr rs.length (rs.map (Value.int .i32))
  places : w.ownsRow (w0.heap.size + 4) 3 1 vp ps.length (ps.map (Value.int .i64))
  fm : ∃ D, w.ownsMap Tryz.prog 27 (plainElem (H := Unit) Tryz.prog 3) w0.heap.size (Maps.size D) D ∧ FMap D F
  nm : w.ownsMap Tryz.prog 9 (plainElem (H := Unit) Tryz.prog 3) (w0.heap.size + 1) 0 (.map [])
  kept : Kept Nil w0 w
  size : w0.heap.size + 4 ≤ w.heap.size

theorem emptyF : FMap (.map []) flt0 := ⟨isMap_empty, fun e => by simp [Maps.has, Flt.get, flt0], fun e p h => by simp [Flt.get, flt0] at h, rfl⟩
theorem emptyN : NMap (.map []) [] := ⟨isMap_empty, fun e => by simp [Maps.has], fun e p h => by simp at h, rfl⟩

theorem newReader_start (w : World) (s : ByteArray) : Nr ((((w.alloc (.map #[] 0)).alloc (.map #[] 0)).alloc (.cells #[.slice none 0 0, .slice none 0 0, .int .i64 0, .map (some w.heap.size), .bool false, .int .i64 0, .map (some (w.heap.size + 1))] 80)).iter s 0) w s (.slice none 0 0) (.slice none 0 0) [] [] flt0 0 where
  iter := by
    have := World.iter_heap (((w.alloc (.map #[] 0)).alloc (.map #[] 0)).alloc (.cells #[.slice none 0 0, .slice none 0 0, .int .i64 0, .map (some w.heap.size), .bool false, .int .i64 0, .map (some (w.heap.size + 1))] 80)) s 0
    rw [size_alloc1, size_alloc1, size_alloc1] at this
    exact this
  blk := by
    have := (Blk.new ((w.alloc (.map #[] 0)).alloc (.map #[] 0)) #[.slice none 0 0, .slice none 0 0, .int .i64 0, .map (some w.heap.size), .bool false, .int .i64 0, .map (some (w.heap.size + 1))] 80).alloc (.stringIter s 0)
    rw [size_alloc1, size_alloc1] at this
    exact this
  runes := World.ownsRow_nil _ _ _ _
  places := World.ownsRow_nil _ _ _ _
  fm := ⟨.map [], (((World.ownsMap_made w Tryz.prog 27 _).alloc _).alloc _).alloc _, emptyF⟩
  nm := by
    have := ((World.ownsMap_made (w.alloc (.map #[] 0)) Tryz.prog 9 (plainElem (H := Unit) Tryz.prog 3)).alloc (.cells #[.slice none 0 0, .slice none 0 0, .int .i64 0, .map (some w.heap.size), .bool false, .int .i64 0, .map (some (w.heap.size + 1))] 80)).alloc (.stringIter s 0)
    rw [size_alloc1] at this
    exact this
  kept := ((((Kept.refl _ _).alloc _).alloc _).alloc _).alloc _
  size := by simp [World.iter]

theorem Nr.keptOn {w w' w0 : World} {s : ByteArray} {vr vp : Value} {rs ps : List Int} {F : Flt} {pos : Nat} (h : Nr w w0 s vr vp rs ps F pos) (k : Kept Nil w w') : Nr w' w0 s vr vp rs ps F pos where
  iter := (k.block _ (by have := h.size; omega) (fun hx => hx)).trans h.iter
  blk := h.blk.kept k (fun hx => hx)
  runes := ownsRow_kept h.runes k (fun _ _ hx => hx)
  places := ownsRow_kept h.places k (fun _ _ hx => hx)
  fm := by obtain ⟨D, hD, hF⟩ := h.fm; exact ⟨D, ownsMap_kept hD k (fun hx => hx), hF⟩
  nm := ownsMap_kept h.nm k (fun hx => hx)
  kept := h.kept.trans k
  size := Nat.le_trans h.size k.size

theorem Kept.iterAt {S : Nat → Prop} {a w : World} (h : Kept S a w) {k : Nat} (hk : S k ∨ a.heap.size ≤ k) (s : ByteArray) (pos : Nat) : Kept S a (w.iterAt k s pos) :=
  ⟨h.os, h.tape, h.output, by rw [Lib.iterAt_size]; exact h.size, fun i hi hn => (Lib.iterAt_other w k i s pos (by
    intro e; subst e
    rcases hk with hk | hk
    · exact hn hk
    · omega)).trans (h.block i hi hn)⟩

theorem Nr.moved {w w0 : World} {s : ByteArray} {vr vp : Value} {rs ps : List Int} {F : Flt} {pos : Nat} (h : Nr w w0 s vr vp rs ps F pos) (pos' : Nat) : Nr (w.iterAt (w0.heap.size + 1 + 1 + 1) s pos') w0 s vr vp rs ps F pos' := by
  have k : Kept (fun i => i = w0.heap.size + 1 + 1 + 1) w (w.iterAt (w0.heap.size + 1 + 1 + 1) s pos') := (Kept.refl (fun i => i = w0.heap.size + 1 + 1 + 1) w).iterAt (k := w0.heap.size + 1 + 1 + 1) (Or.inl rfl) s pos'
  exact {
    iter := Lib.iterAt_heap w _ s pos pos' h.iter
    blk := h.blk.kept k (by omega)
    runes := ownsRow_kept h.runes k (fun b hb hx => by have := ownsRow_block h.runes hb; omega)
    places := ownsRow_kept h.places k (fun b hb hx => by have := ownsRow_block h.places hb; omega)
    fm := by obtain ⟨D, hD, hF⟩ := h.fm; exact ⟨D, ownsMap_kept hD k (by omega), hF⟩
    nm := ownsMap_kept h.nm k (by omega)
    kept := h.kept.trans' k (fun i hi he => by omega)
    size := by rw [Lib.iterAt_size]; exact h.size }

theorem Nr.noted {w w' w0 : World} {s : ByteArray} {vr vp : Value} {rs ps : List Int} {F F' : Flt} {pos : Nat} (h : Nr w w0 s vr vp rs ps F pos) (k : Kept (fun i => i = w0.heap.size) w w')
    (hf : ∃ D, w'.ownsMap Tryz.prog 27 (plainElem (H := Unit) Tryz.prog 3) w0.heap.size (Maps.size D) D ∧ FMap D F') : Nr w' w0 s vr vp rs ps F' pos where
  iter := (k.block _ (by have := h.size; omega) (by omega)).trans h.iter
  blk := h.blk.kept k (by omega)
  runes := ownsRow_kept h.runes k (fun b hb hx => by have := ownsRow_block h.runes hb; omega)
  places := ownsRow_kept h.places k (fun b hb hx => by have := ownsRow_block h.places hb; omega)
  fm := hf
  nm := ownsMap_kept h.nm k (by omega)
  kept := h.kept.trans' k (fun i hi he => by omega)
  size := Nat.le_trans h.size k.size

/-- two rows of other types are two rows -/
theorem ownsRow_ne {w : World} {base n n' : Nat} {v v' : Value} {xs xs' : List Value} {e e' : TypeId} (he : e ≠ e') (h : w.ownsRow base e 1 v n xs) (h' : w.ownsRow base e' 1 v' n' xs') {b : Nat} (hb : v.ownBlock = some b) (hb' : v'.ownBlock = some b) : False := by
  rcases h.2 with ⟨rfl, _⟩ | ⟨g, cap, cur, rfl, a1, a2, r⟩
  · simp [Value.ownBlock] at hb
  · rcases h'.2 with ⟨rfl, _⟩ | ⟨g', cap', cur', rfl, a1', a2', r'⟩
    · simp [Value.ownBlock] at hb'
    · simp [Value.ownBlock] at hb hb'
      subst hb hb'
      rw [a2] at a2'
      simp at a2'
      exact he a2'.2

theorem Nr.pushRune {w w4 w0 : World} {s : ByteArray} {vr vp v' : Value} {rs ps : List Int} {F : Flt} {pos : Nat} {c : Int} {o : Obj} (h : Nr w w0 s vr vp rs ps F pos)
    (hown : w4.ownsRow (w0.heap.size + 4) 21 1 v' (rs.length + 1) (rs.map (Value.int .i32) ++ [.int .i32 c])) (hg : (w.alloc o).grownBy w4 vr.ownBlock) :
    Nr (w4.setCell ⟨w0.heap.size + 1 + 1, 0, none⟩ v') w0 s v' vp (rs ++ [c]) ps F pos := by
  have k1 : Kept (fun i => vr.ownBlock = some i) w w4 := ((Kept.refl _ _).alloc o).grown hg (fun j hj => Or.inl hj)
  have hge : ∀ i, vr.ownBlock = some i → w0.heap.size + 4 ≤ i := fun i hi => (ownsRow_block h.runes hi).1
  have k2 : Kept (fun i => i = w0.heap.size + 1 + 1) w4 (w4.setCell ⟨w0.heap.size + 1 + 1, 0, none⟩ v') := (Kept.refl (fun i => i = w0.heap.size + 1 + 1) w4).setCell (p := ⟨w0.heap.size + 1 + 1, 0, none⟩) (Or.inl rfl) v'
  have s1 := k1.size
  have sz := h.size
  exact {
    iter := (k2.block _ (by omega) (by omega)).trans ((k1.block _ (by omega) (fun hx => by have := hge _ hx; omega)).trans h.iter)
    blk := (h.blk.kept k1 (fun hx => by have := hge _ hx; omega)).setCell 0 v'
    runes := by
      have := ownsRow_kept hown k2 (fun b hb hx => by have := ownsRow_block hown hb; omega)
      simpa using this
    places := ownsRow_kept (ownsRow_kept h.places k1 (fun b hb hx => ownsRow_ne (by decide) h.runes h.places hx hb)) k2 (fun b hb hx => by have := ownsRow_block h.places hb; omega)
    fm := by obtain ⟨D, hD, hF⟩ := h.fm; exact ⟨D, ownsMap_kept (ownsMap_kept hD k1 (fun hx => by have := hge _ hx; omega)) k2 (by omega), hF⟩
    nm := ownsMap_kept (ownsMap_kept h.nm k1 (fun hx => by have := hge _ hx; omega)) k2 (by omega)
    kept := (h.kept.trans' k1 (fun i hi he => by have := hge _ he; omega)).trans' k2 (fun i hi he => by omega)
    size := by have := k2.size; omega }

theorem Nr.pushPlace {w w4 w0 : World} {s : ByteArray} {vr vp v' : Value} {rs ps : List Int} {F : Flt} {pos : Nat} {c : Int} {o : Obj} (h : Nr w w0 s vr vp rs ps F pos)
    (hown : w4.ownsRow (w0.heap.size + 4) 3 1 v' (ps.length + 1) (ps.map (Value.int .i64) ++ [.int .i64 c])) (hg : (w.alloc o).grownBy w4 vp.ownBlock) :
    Nr (w4.setCell ⟨w0.heap.size + 1 + 1, 1, none⟩ v') w0 s vr v' rs (ps ++ [c]) F pos := by
  have k1 : Kept (fun i => vp.ownBlock = some i) w w4 := ((Kept.refl _ _).alloc o).grown hg (fun j hj => Or.inl hj)
  have hge : ∀ i, vp.ownBlock = some i → w0.heap.size + 4 ≤ i := fun i hi => (ownsRow_block h.places hi).1
  have k2 : Kept (fun i => i = w0.heap.size + 1 + 1) w4 (w4.setCell ⟨w0.heap.size + 1 + 1, 1, none⟩ v') := (Kept.refl (fun i => i = w0.heap.size + 1 + 1) w4).setCell (p := ⟨w0.heap.size + 1 + 1, 1, none⟩) (Or.inl rfl) v'
  have s1 := k1.size
  have sz := h.size
  exact {
    iter := (k2.block _ (by omega) (by omega)).trans ((k1.block _ (by omega) (fun hx => by have := hge _ hx; omega)).trans h.iter)
    blk := (h.blk.kept k1 (fun hx => by have := hge _ hx; omega)).setCell 1 v'
    runes := ownsRow_kept (ownsRow_kept h.runes k1 (fun b hb hx => ownsRow_ne (by decide) h.runes h.places hb hx)) k2 (fun b hb hx => by have := ownsRow_block h.runes hb; omega)
    places := by
      have := ownsRow_kept hown k2 (fun b hb hx => by have := ownsRow_block hown hb; omega)
      simpa using this
    fm := by obtain ⟨D, hD, hF⟩ := h.fm; exact ⟨D, ownsMap_kept (ownsMap_kept hD k1 (fun hx => by have := hge _ hx; omega)) k2 (by omega), hF⟩
    nm := ownsMap_kept (ownsMap_kept h.nm k1 (fun hx => by have := hge _ hx; omega)) k2 (by omega)
    kept := (h.kept.trans' k1 (fun i hi he => by have := hge _ he; omega)).trans' k2 (fun i hi he => by omega)
    size := by have := k2.size; omega }

theorem Tryz.infoInt : (Tryz.prog.info? 3).map (fun i => (i.zero, i.size, i.bytes)) = some (some (.int .i64 0), 1, 8) := by kernel_rfl
theorem Tryz.infoRune : (Tryz.prog.info? 21).map (fun i => (i.zero, i.size, i.bytes)) = some (some (.int .i32 0), 1, 4) := by kernel_rfl

/-- the reader when it is whole -/
theorem Nr.done {w w0 : World} {s : ByteArray} {vr vp : Value} {rs ps : List Int} {F : Flt} {pos : Nat} (h : Nr w w0 s vr vp rs ps F pos) (hl : ps.length = rs.length + 1) (hn : rs.length ≤ 300) (hp : ∀ p ∈ ps, 0 ≤ p ∧ p ≤ 300) (hrr : ∀ r ∈ rs, 0 ≤ r ∧ r ≤ 1114111) :
    ∃ g : RG, g.b = w0.heap.size + 1 + 1 ∧ g.rs = rs ∧ g.ps = ps ∧ RdAt w g false { next := 0, flt := F, groups := 0, names := [] } ∧ (∀ i, g.use i → w0.heap.size ≤ i) := by
  obtain ⟨D, hD, hF⟩ := h.fm
  have sz := h.size
  have cells : ∀ {e : TypeId} {k : IntKind} {g cap : Nat} {cur : Array Value} {zs : List Int}, w.heap[g]? = some (.cells cur e (0, 0)) → cur.toList.take (zs.length * 1) = zs.map (Value.int k) → ∀ i, i < zs.length → w.cell? ⟨g, i, none⟩ = some (.int k (zs.getD i 0)) := by
    intro e k g cap cur zs hc ht i hi
    have h1 : (zs.map (Value.int k))[i]? = some (.int k (zs.getD i 0)) := by simp [List.getD, List.getElem?_eq_getElem hi]
    rw [← ht, List.getElem?_take_of_lt (by omega)] at h1
    simp only [World.cell?, hc]
    simpa using h1
  have pr : ∀ i, 0 ≤ ps.getD i 0 ∧ ps.getD i 0 ≤ 300 := by
    intro i
    by_cases hi : i < ps.length
    · have : ps.getD i 0 = ps[i] := by simp [List.getD, List.getElem?_eq_getElem hi]
      rw [this]; exact hp _ (List.getElem_mem hi)
    · have : ps.getD i 0 = 0 := by simp [List.getD, List.getElem?_eq_none (by omega : ps.length ≤ i)]
      rw [this]; omega
  rcases h.places.2 with ⟨rfl, h0⟩ | ⟨gp, capp, curp, rfl, p1, p2, p3, p4, p5, p6⟩
  · omega
  have gplt := (Array.getElem?_eq_some_iff.1 p2).1
  rcases h.runes.2 with ⟨rfl, h0⟩ | ⟨gr, capr, curr, rfl, r1, r2, r3, r4, r5, r6⟩
  · have e : rs = [] := List.length_eq_zero_iff.1 h0
    subst e
    refine ⟨{ b := w0.heap.size + 1 + 1, ao := none, br := gp, cr := 0, bp := gp, cp := capp, bf := w0.heap.size, bn := w0.heap.size + 1, rs := [], ps := ps }, rfl, rfl, rfl, ?_, ?_⟩
    · exact {
        blk := by have := h.blk; rw [hl] at this; exact this
        isSome := fun hx => by simp at hx
        runes := fun i hi => by simp at hi
        places := fun i hi => cells (cap := capp) p2 p6 i (by rw [hl]; exact hi)
        brlt := gplt
        bplt := gplt
        prange := pr
        rrange := hrr
        fm := ⟨D, hD, hF⟩
        nm := ⟨.map [], h.nm, emptyN⟩
        len := by simp
        capr := by simp
        next := by simp
        groups := by simp
        names := by simp
        apart := by refine ⟨?_, ?_, ?_, ?_, ?_, ?_, ?_, ?_, ?_⟩ <;> simp only <;> omega }
    · intro i hi
      rcases hi with rfl | rfl | rfl | rfl | rfl <;> (try simp only) <;> omega
  · have grlt := (Array.getElem?_eq_some_iff.1 r2).1
    refine ⟨{ b := w0.heap.size + 1 + 1, ao := some ⟨gr, 0, none⟩, br := gr, cr := capr, bp := gp, cp := capp, bf := w0.heap.size, bn := w0.heap.size + 1, rs := rs, ps := ps }, rfl, rfl, rfl, ?_, ?_⟩
    · exact {
        blk := by have := h.blk; rw [hl] at this; exact this
        isSome := fun _ => rfl
        runes := fun i hi => cells (cap := capr) r2 r6 i hi
        places := fun i hi => cells (cap := capp) p2 p6 i (by rw [hl]; exact hi)
        brlt := grlt
        bplt := gplt
        prange := pr
        rrange := hrr
        fm := ⟨D, hD, hF⟩
        nm := ⟨.map [], h.nm, emptyN⟩
        len := hn
        capr := r3
        next := by simp
        groups := by simp
        names := by simp
        apart := by refine ⟨?_, ?_, ?_, ?_, ?_, ?_, ?_, ?_, ?_⟩ <;> simp only <;> omega }
    · intro i hi
      rcases hi with rfl | rfl | rfl | rfl | rfl <;> (try simp only) <;> omega

set_option maxHeartbeats 2000000 in
theorem newReader_rd (s : ByteArray) (w : World) (hs : s.size ≤ 300) :
    Calls Tryz.prog 27 #[.string s] w fun e w' => ∃ g : RG, e = .returned (.pointer (some ⟨g.b, 0, none⟩)) ∧ g.rs = (scanFrom s (s.size + 1) 0).map (·.2) ∧ g.ps = (scanFrom s (s.size + 1) 0).map (fun p => (p.1 : Int)) ++ [(s.size : Int)] ∧
      RdAt w' g false { next := 0, flt := fltOf s (scanFrom s (s.size + 1) 0), groups := 0, names := [] } ∧ (∀ i, g.use i → w.heap.size ≤ i) ∧ Kept Nil w w' := by
  have hmm := @run_makeMap Tryz.prog
  obtain ⟨ii, hii, hiz, his, hib⟩ := info_parts Tryz.infoInt
  obtain ⟨ir, hir, hrz, hrs, hrb⟩ := info_parts Tryz.infoRune
  have hst := newReader_start w s
  go_enter Tryz.func27, Tryz.ntmps27
  go_wp2_with fail
  go_loopg [4] s.size (fun kk _ wr => ∃ (pos m : Nat) (l : List (Nat × Int)) (rs ps : List Int) (vr vp : Value), Nr wr w s vr vp rs ps (fltOf s l) pos ∧ Hid (rs = l.map (·.2) ∧ ps = l.map fun p => (p.1 : Int)) ∧ rs.length ≤ pos ∧ ps.length ≤ pos ∧ Hid (l ++ scanFrom s m pos = scanFrom s (s.size + 1) 0) ∧ kk = s.size - pos ∧ kk < m ∧ rs.length ≤ s.size ∧ ps.length ≤ s.size ∧ Hid (∀ p ∈ l, p.1 ≤ 300))
  case atStart => exact ⟨0, s.size + 1, [], [], [], _, _, hst, ⟨rfl, rfl⟩, by simp, by simp, rfl, rfl, by omega, by simp, by simp, fun p hp => by simp at hp⟩
  case round =>
    obtain ⟨pos, m, l, rs, ps, vr, vp, hN, HRP, hrl, hpl, HL, rfl, hm, hr5, hp5, HS⟩ := hrel
    clear hst
    by_cases hlt : pos < s.size
    · have hn := fun ty => Lib.run_next_any_at (P := Tryz.prog) wr (w.heap.size + 1 + 1 + 1) s pos ty hN.iter hlt
      have hdp := decode_pos s pos hlt
      have hN1 := hN.moved (pos + (Utf8.decode s pos).2)
      obtain ⟨w1, hw1⟩ : ∃ w1, w1 = wr.iterAt (w.heap.size + 1 + 1 + 1) s (pos + (Utf8.decode s pos).2) := ⟨_, rfl⟩
      rw [← hw1] at hN1
      have hn' : ∀ ty, (Instr.next (.pointer (some ⟨w.heap.size + 1 + 1 + 1, 0, none⟩)) true ty).run Tryz.prog wr = .ok (.tuple #[.bool true, .int .i64 pos, .int .i32 (Utf8.decode s pos).1]) w1 := by rw [hw1]; exact hn
      clear hn hw1
      have HC : Hid ((pos, ((Utf8.decode s pos).1 : Int)) :: scanFrom s (m - 1) (pos + (Utf8.decode s pos).2) = scanFrom s m pos) := by
        show _ = _
        obtain ⟨m', rfl⟩ : ∃ m', m = m' + 1 := ⟨m - 1, by omega⟩
        rw [show scanFrom s (m' + 1) pos = if pos < s.size then (pos, ((Utf8.decode s pos).1 : Int)) :: scanFrom s m' (pos + (Utf8.decode s pos).2) else [] from rfl, if_pos hlt]
        rfl
      generalize hcv : ((Utf8.decode s pos).1 : Int) = c at hn' HC
      generalize hwd : (Utf8.decode s pos).2 = wd at hdp hN1 HC
      clear hcv hwd
      cases hc : (c == 65533)
      · have EF : Hid (fltOf s (l ++ [(pos, c)]) = fltOf s l) := by show _ = _; rw [fltOf_snoc]; simp [isBad, hc]
        have c0 : w1.cell? ⟨w.heap.size + 1 + 1, 0, none⟩ = some vr := hN1.blk.cell 0
        go_wp2_with (at_builtin; refine wpList_append_own_at _ rfl _ _ 77 rfl (w.heap.size + 4) 21 ir _ 1 4 Tryz.underlying77 hir hrz hrs hrb rfl (by decide) _ _ _ rfl (hN1.runes.alloc _) ⟨w1.heap.size, 0, none⟩ 1 1 [.int .i32 c] rfl rfl ?c1 ?c2 ?c3 ?c4 ?c5 ?_)
        case c1 => exact cell_one_new _ _ _
        case c2 => intro u hu; simp at hu; subst hu; rfl
        case c3 => unfold maxLen; omega
        case c4 => omega
        case c5 => have := hN1.size; simp; omega
        intro v' w4 hown' hgrow hnil hloc
        have hN4 := hN1.pushRune hown' hgrow
        have b4 := (hN1.blk.kept (((Kept.refl (fun i => vr.ownBlock = some i) w1).alloc _).grown hgrow (fun j hj => Or.inl hj)) (fun hx => by have := (ownsRow_block hN1.runes hx).1; omega))
        obtain ⟨ao4, cc4, hv4⟩ := ownsRow_slice hown'
        rw [hv4] at hN4 ⊢
        clear hown' hgrow hnil hloc hv4 c0
        have c40 : w4.cell? ⟨w.heap.size + 1 + 1, 0, none⟩ = some vr := b4.cell 0
        have f40 : w4.frozen? ⟨w.heap.size + 1 + 1, 0, none⟩ = false := b4.frozen 0
        have c41 : (w4.setCell ⟨w.heap.size + 1 + 1, 0, none⟩ (.slice ao4 (rs.length + 1) cc4)).cell? ⟨w.heap.size + 1 + 1, 1, none⟩ = some vp := hN4.blk.cell 1
        go_wp2_with (at_builtin; refine wpList_append_own_at _ rfl _ _ 22 rfl (w.heap.size + 4) 3 ii _ 1 8 Tryz.underlying22 hii hiz his hib rfl (by decide) _ _ _ rfl (hN4.places.alloc _) ⟨w4.heap.size, 0, none⟩ 1 1 [.int .i64 (pos : Int)] rfl rfl ?c1 ?c2 ?c3 ?c4 ?c5 ?_)
        case c1 =>
          have := cell_one_new (w4.setCell ⟨w.heap.size + 1 + 1, 0, none⟩ (.slice ao4 (rs.length + 1) cc4)) (.int .i64 (pos : Int)) 3
          simpa [World.setCell] using this
        case c2 => intro u hu; simp at hu; subst hu; rfl
        case c3 => unfold maxLen; omega
        case c4 => omega
        case c5 => have := hN4.size; simp [World.setCell] at this ⊢; omega
        intro v5 w5 hown5 hgrow5 hnil5 hloc5
        have hN5 := hN4.pushPlace hown5 hgrow5
        have b5 := (hN4.blk.kept (((Kept.refl (fun i => vp.ownBlock = some i) _).alloc _).grown hgrow5 (fun j hj => Or.inl hj)) (fun hx => by have := (ownsRow_block hN4.places hx).1; omega))
        obtain ⟨ao5, cc5, hv5⟩ := ownsRow_slice hown5
        rw [hv5] at hN5 ⊢
        clear hown5 hgrow5 hnil5 hloc5 hv5 c40 f40 c41 b4 hN4
        have c51 : w5.cell? ⟨w.heap.size + 1 + 1, 1, none⟩ = some vp := b5.cell 1
        have f51 : w5.frozen? ⟨w.heap.size + 1 + 1, 1, none⟩ = false := b5.frozen 1
        go_wp2_with fail
        go_roundg (s.size - (pos + wd))
        case measure => omega
        case rel =>
          refine ⟨pos + wd, m - 1, l ++ [(pos, c)], rs ++ [c], ps ++ [(pos : Int)], _, _, EF.out.symm ▸ hN5, ⟨by rw [HRP.out.1]; simp, by rw [HRP.out.2]; simp⟩, by simp; omega, by simp; omega, ?_, rfl, by omega, by simp; omega, by simp; omega, ?_⟩
          · show _ = _
            rw [← HL.out, ← HC.out]; simp
          · intro p hp
            rcases List.mem_append.1 hp with hp | hp
            · exact HS.out p hp
            · simp at hp; subst hp; simp only; omega
      · go_wp2_with fail
        refine (hasPrefix_any _ _ _).mono ?_
        rintro e w2 ⟨rfl, hk2⟩
        have hN2 := hN1.keptOn hk2
        have hib : isBad s (pos, c) = !(Lib.hasPrefix (s.extract pos s.size).data.toList [239, 191, 189]) := by simp [isBad, hc]
        cases hpp : Lib.hasPrefix (s.extract pos s.size).data.toList [239, 191, 189]
        · have EF : Hid (fltOf s (l ++ [(pos, c)]) = (fltOf s l).note 2 pos) := by show _ = _; rw [fltOf_snoc, hib, hpp]; simp
          clear hpp hib
          go_wp2_with fail
          obtain ⟨D, hD, hF⟩ := hN2.fm
          refine (note_core (b := w.heap.size + 1 + 1) (hN2.blk.cell 3) hD hF 2 pos (by omega) (by omega)).mono ?_
          rintro e w3 ⟨rfl, hf3, hk3⟩
          have hN3 := hN2.noted hk3 hf3
          have c0 : w3.cell? ⟨w.heap.size + 1 + 1, 0, none⟩ = some vr := hN3.blk.cell 0
          go_wp2_with (at_builtin; refine wpList_append_own_at _ rfl _ _ 77 rfl (w.heap.size + 4) 21 ir _ 1 4 Tryz.underlying77 hir hrz hrs hrb rfl (by decide) _ _ _ rfl (hN3.runes.alloc _) ⟨w3.heap.size, 0, none⟩ 1 1 [.int .i32 c] rfl rfl ?c1 ?c2 ?c3 ?c4 ?c5 ?_)
          case c1 => exact cell_one_new _ _ _
          case c2 => intro u hu; simp at hu; subst hu; rfl
          case c3 => unfold maxLen; omega
          case c4 => omega
          case c5 => have := hN3.size; simp; omega
          intro v' w4 hown' hgrow hnil hloc
          have hN4 := hN3.pushRune hown' hgrow
          have b4 := (hN3.blk.kept (((Kept.refl (fun i => vr.ownBlock = some i) w3).alloc _).grown hgrow (fun j hj => Or.inl hj)) (fun hx => by have := (ownsRow_block hN3.runes hx).1; omega))
          obtain ⟨ao4, cc4, hv4⟩ := ownsRow_slice hown'
          rw [hv4] at hN4 ⊢
          clear hown' hgrow hnil hloc hv4 c0
          have c40 : w4.cell? ⟨w.heap.size + 1 + 1, 0, none⟩ = some vr := b4.cell 0
          have f40 : w4.frozen? ⟨w.heap.size + 1 + 1, 0, none⟩ = false := b4.frozen 0
          have c41 : (w4.setCell ⟨w.heap.size + 1 + 1, 0, none⟩ (.slice ao4 (rs.length + 1) cc4)).cell? ⟨w.heap.size + 1 + 1, 1, none⟩ = some vp := hN4.blk.cell 1
          go_wp2_with (at_builtin; refine wpList_append_own_at _ rfl _ _ 22 rfl (w.heap.size + 4) 3 ii _ 1 8 Tryz.underlying22 hii hiz his hib rfl (by decide) _ _ _ rfl (hN4.places.alloc _) ⟨w4.heap.size, 0, none⟩ 1 1 [.int .i64 (pos : Int)] rfl rfl ?c1 ?c2 ?c3 ?c4 ?c5 ?_)
          case c1 =>
            have := cell_one_new (w4.setCell ⟨w.heap.size + 1 + 1, 0, none⟩ (.slice ao4 (rs.length + 1) cc4)) (.int .i64 (pos : Int)) 3
            simpa [World.setCell] using this
          case c2 => intro u hu; simp at hu; subst hu; rfl
          case c3 => unfold maxLen; omega
          case c4 => omega
          case c5 => have := hN4.size; simp [World.setCell] at this ⊢; omega
          intro v5 w5 hown5 hgrow5 hnil5 hloc5
          have hN5 := hN4.pushPlace hown5 hgrow5
          have b5 := (hN4.blk.kept (((Kept.refl (fun i => vp.ownBlock = some i) _).alloc _).grown hgrow5 (fun j hj => Or.inl hj)) (fun hx => by have := (ownsRow_block hN4.places hx).1; omega))
          obtain ⟨ao5, cc5, hv5⟩ := ownsRow_slice hown5
          rw [hv5] at hN5 ⊢
          clear hown5 hgrow5 hnil5 hloc5 hv5 c40 f40 c41 b4 hN4
          have c51 : w5.cell? ⟨w.heap.size + 1 + 1, 1, none⟩ = some vp := b5.cell 1
          have f51 : w5.frozen? ⟨w.heap.size + 1 + 1, 1, none⟩ = false := b5.frozen 1
          go_wp2_with fail
          go_roundg (s.size - (pos + wd))
          case measure => omega
          case rel =>
            refine ⟨pos + wd, m - 1, l ++ [(pos, c)], rs ++ [c], ps ++ [(pos : Int)], _, _, EF.out.symm ▸ hN5, ⟨by rw [HRP.out.1]; simp, by rw [HRP.out.2]; simp⟩, by simp; omega, by simp; omega, ?_, rfl, by omega, by simp; omega, by simp; omega, ?_⟩
            · show _ = _
              rw [← HL.out, ← HC.out]; simp
            · intro p hp
              rcases List.mem_append.1 hp with hp | hp
              · exact HS.out p hp
              · simp at hp; subst hp; simp only; omega
        · have EF : Hid (fltOf s (l ++ [(pos, c)]) = fltOf s l) := by show _ = _; rw [fltOf_snoc, hib, hpp]; simp
          clear hpp hib
          have c0 : w2.cell? ⟨w.heap.size + 1 + 1, 0, none⟩ = some vr := hN2.blk.cell 0
          go_wp2_with (at_builtin; refine wpList_append_own_at _ rfl _ _ 77 rfl (w.heap.size + 4) 21 ir _ 1 4 Tryz.underlying77 hir hrz hrs hrb rfl (by decide) _ _ _ rfl (hN2.runes.alloc _) ⟨w2.heap.size, 0, none⟩ 1 1 [.int .i32 c] rfl rfl ?c1 ?c2 ?c3 ?c4 ?c5 ?_)
          case c1 => exact cell_one_new _ _ _
          case c2 => intro u hu; simp at hu; subst hu; rfl
          case c3 => unfold maxLen; omega
          case c4 => omega
          case c5 => have := hN2.size; simp; omega
          intro v' w4 hown' hgrow hnil hloc
          have hN4 := hN2.pushRune hown' hgrow
          have b4 := (hN2.blk.kept (((Kept.refl (fun i => vr.ownBlock = some i) w2).alloc _).grown hgrow (fun j hj => Or.inl hj)) (fun hx => by have := (ownsRow_block hN2.runes hx).1; omega))
          obtain ⟨ao4, cc4, hv4⟩ := ownsRow_slice hown'
          rw [hv4] at hN4 ⊢
          clear hown' hgrow hnil hloc hv4 c0
          have c40 : w4.cell? ⟨w.heap.size + 1 + 1, 0, none⟩ = some vr := b4.cell 0
          have f40 : w4.frozen? ⟨w.heap.size + 1 + 1, 0, none⟩ = false := b4.frozen 0
          have c41 : (w4.setCell ⟨w.heap.size + 1 + 1, 0, none⟩ (.slice ao4 (rs.length + 1) cc4)).cell? ⟨w.heap.size + 1 + 1, 1, none⟩ = some vp := hN4.blk.cell 1
          go_wp2_with (at_builtin; refine wpList_append_own_at _ rfl _ _ 22 rfl (w.heap.size + 4) 3 ii _ 1 8 Tryz.underlying22 hii hiz his hib rfl (by decide) _ _ _ rfl (hN4.places.alloc _) ⟨w4.heap.size, 0, none⟩ 1 1 [.int .i64 (pos : Int)] rfl rfl ?c1 ?c2 ?c3 ?c4 ?c5 ?_)
          case c1 =>
            have := cell_one_new (w4.setCell ⟨w.heap.size + 1 + 1, 0, none⟩ (.slice ao4 (rs.length + 1) cc4)) (.int .i64 (pos : Int)) 3
            simpa [World.setCell] using this
          case c2 => intro u hu; simp at hu; subst hu; rfl
          case c3 => unfold maxLen; omega
          case c4 => omega
          case c5 => have := hN4.size; simp [World.setCell] at this ⊢; omega
          intro v5 w5 hown5 hgrow5 hnil5 hloc5
          have hN5 := hN4.pushPlace hown5 hgrow5
          have b5 := (hN4.blk.kept (((Kept.refl (fun i => vp.ownBlock = some i) _).alloc _).grown hgrow5 (fun j hj => Or.inl hj)) (fun hx => by have := (ownsRow_block hN4.places hx).1; omega))
          obtain ⟨ao5, cc5, hv5⟩ := ownsRow_slice hown5
          rw [hv5] at hN5 ⊢
          clear hown5 hgrow5 hnil5 hloc5 hv5 c40 f40 c41 b4 hN4
          have c51 : w5.cell? ⟨w.heap.size + 1 + 1, 1, none⟩ = some vp := b5.cell 1
          have f51 : w5.frozen? ⟨w.heap.size + 1 + 1, 1, none⟩ = false := b5.frozen 1
          go_wp2_with fail
          go_roundg (s.size - (pos + wd))
          case measure => omega
          case rel =>
            refine ⟨pos + wd, m - 1, l ++ [(pos, c)], rs ++ [c], ps ++ [(pos : Int)], _, _, EF.out.symm ▸ hN5, ⟨by rw [HRP.out.1]; simp, by rw [HRP.out.2]; simp⟩, by simp; omega, by simp; omega, ?_, rfl, by omega, by simp; omega, by simp; omega, ?_⟩
            · show _ = _
              rw [← HL.out, ← HC.out]; simp
            · intro p hp
              rcases List.mem_append.1 hp with hp | hp
              · exact HS.out p hp
              · simp at hp; subst hp; simp only; omega
    · have hn := fun ty => Lib.run_next_end_at (P := Tryz.prog) wr (w.heap.size + 1 + 1 + 1) s pos ty hN.iter hlt
      have c1 : wr.cell? ⟨w.heap.size + 1 + 1, 1, none⟩ = some vp := hN.blk.cell 1
      have HLL : Hid (l = scanFrom s (s.size + 1) 0) := by
        show _ = _
        have := HL.out
        rw [scanFrom_end s m pos hlt, List.append_nil] at this
        exact this
      go_wp2_with (at_builtin; refine wpList_append_own_at _ rfl _ _ 22 rfl (w.heap.size + 4) 3 ii _ 1 8 Tryz.underlying22 hii hiz his hib rfl (by decide) _ _ _ rfl (hN.places.alloc _) ⟨wr.heap.size, 0, none⟩ 1 1 [.int .i64 (s.size : Int)] rfl rfl ?c1 ?c2 ?c3 ?c4 ?c5 ?_)
      case c1 => exact cell_one_new _ _ _
      case c2 => intro u hu; simp at hu; subst hu; rfl
      case c3 => unfold maxLen; omega
      case c4 => omega
      case c5 => have := hN.size; simp; omega
      intro v5 w5 hown5 hgrow5 hnil5 hloc5
      have hN5 := hN.pushPlace hown5 hgrow5
      have b5 := (hN.blk.kept (((Kept.refl (fun i => vp.ownBlock = some i) _).alloc _).grown hgrow5 (fun j hj => Or.inl hj)) (fun hx => by have := (ownsRow_block hN.places hx).1; omega))
      obtain ⟨ao5, cc5, hv5⟩ := ownsRow_slice hown5
      rw [hv5] at hN5 ⊢
      clear hown5 hgrow5 hnil5 hloc5 hv5 c1 hn
      have c51 : w5.cell? ⟨w.heap.size + 1 + 1, 1, none⟩ = some vp := b5.cell 1
      have f51 : w5.frozen? ⟨w.heap.size + 1 + 1, 1, none⟩ = false := b5.frozen 1
      go_wp2_with fail
      have hlen : ps.length = rs.length := by have := HRP.out; rw [this.1, this.2]; simp
      obtain ⟨g, gb, grs, gps, hrd, huse⟩ := hN5.done (by simp; omega) (by omega) (fun p hp => by
        rcases List.mem_append.1 hp with hp | hp
        · rw [HRP.out.2] at hp
          obtain ⟨x, hx, rfl⟩ := List.mem_map.1 hp
          have := HS.out x hx
          omega
        · simp at hp; subst hp; omega) (fun r hr => by
          rw [HRP.out.1, HLL.out] at hr
          obtain ⟨x, hx, rfl⟩ := List.mem_map.1 hr
          exact scan_rune s _ _ x hx)
      go_ret
      refine ⟨g, by rw [gb]; rfl, ?_, ?_, ?_, huse, hN5.kept⟩
      · rw [grs, HRP.out.1, ← HLL.out]
      · rw [gps, HRP.out.2, ← HLL.out]
      · rw [← HLL.out]; exact hrd
end Go.Proofs.YtnbfddjaonlmaaaGreatDoor
