/- The reference's nodes in memory; letters; class. The reference's tree: words for class. -/
import Derived.Test.YtlimhofdonkljaaTr2
namespace Go.Proofs.Ytlimhofdonkljaa
open Go.RowKit
set_option linter.unusedVariables false

def nodeCells (op : ByteArray) (vs : Value) (nt fd : Bool) (kids : Value) (grp least most : Int) (lz : Bool) : Array Value :=
  #[.string op, vs, .bool nt, .bool fd, kids, .int .i64 grp, .int .i64 least, .int .i64 most, .bool lz]
def sSeq : ByteArray := ⟨#[115, 101, 113]⟩
def sAlt : ByteArray := ⟨#[97, 108, 116]⟩
def sTimes : ByteArray := ⟨#[116, 105, 109, 101, 115]⟩
def sRune : ByteArray := ⟨#[114, 117, 110, 101]⟩

/-- the op of a piece of a kind -/
def OpOf (op : ByteArray) (k : Int) : Prop :=
  (k = 2 ∧ op = sSeq) ∨ (k = 3 ∧ op = sAlt) ∨ (k = 4 ∧ op = sTimes) ∨ ((k = 0 ∨ k = 1) ∧ (op.toList == [115, 101, 113]) = false ∧ (op.toList == [97, 108, 116]) = false ∧ (op.toList == [116, 105, 109, 101, 115]) = false)

/-- a piece in memory: 'NdAt w U b T': block b is the node of the piece T; all blocks that it leads to are of U -/
inductive NdAt (w : World) (U : Nat → Prop) : Nat → PT → Prop where
  | mk (b : Nat) (op : ByteArray) (vs : Value) (nt fd lz : Bool) (grp least most k l h : Int) (ao : Option Addr) (cap bk : Nat) (ts : List PT) (P : Nat → Nat)
      (hblk : Blk w b (nodeCells op vs nt fd (.slice ao ts.length cap) grp least most lz) 74) (hlo : U b) (hop : OpOf op k) (hlm : k = 4 → least = l ∧ most = h)
      (hb : ts ≠ [] → ao = some ⟨bk, 0, none⟩ ∧ U bk)
      (hc : ∀ i, i < ts.length → w.cell? ⟨bk, i, none⟩ = some (.pointer (some ⟨P i, 0, none⟩)))
      (hk : ∀ i, (h : i < ts.length) → NdAt w U (P i) ts[i])
      (hr : (-1 ≤ l ∧ l ≤ 99) ∧ (-1 ≤ h ∧ h ≤ 99) ∧ ts.length ≤ 400 ∧ (k = 3 → ts ≠ [])) :
      NdAt w U b (.node k ts l h)

theorem cell_lt {w : World} {p : Addr} {v : Value} (h : w.cell? p = some v) : p.block < w.heap.size := by
  apply Decidable.byContradiction
  intro hn
  have e : w.heap[p.block]? = none := Array.getElem?_eq_none (by omega)
  simp [World.cell?, e] at h
theorem NdAt.kept {w w' : World} {U : Nat → Prop} {b : Nat} {T : PT} {S : Nat → Prop} (h : NdAt w U b T) (k : Kept S w w') (hs : ∀ i, U i → ¬ S i) : NdAt w' U b T := by
  induction h with
  | mk b op vs nt fd lz grp least most kk l hh ao cap bk ts P hblk hlo hop hlm hb hc hk hr ih =>
    refine NdAt.mk b op vs nt fd lz grp least most kk l hh ao cap bk ts P (hblk.kept k (hs b hlo)) hlo hop hlm hb (fun i hi' => ?_) (fun i hi' => ih i hi') hr
    obtain ⟨_, b1⟩ := hb (by intro e; subst e; simp at hi')
    rw [k.cell (p := ⟨bk, i, none⟩) (cell_lt (hc i hi')) (hs bk b1)]
    exact hc i hi'
theorem NdAt.widen {w : World} {U U' : Nat → Prop} {b : Nat} {T : PT} (h : NdAt w U b T) (h1 : ∀ i, U i → i < w.heap.size → U' i) : NdAt w U' b T := by
  induction h with
  | mk b op vs nt fd lz grp least most kk l hh ao cap bk ts P hblk hlo hop hlm hb hc hk hr ih =>
    refine NdAt.mk b op vs nt fd lz grp least most kk l hh ao cap bk ts P hblk (h1 _ hlo hblk.lt) hop hlm (fun hne => ?_) hc (fun i hi' => ih i hi') hr
    obtain ⟨a, b1⟩ := hb hne
    exact ⟨a, h1 _ b1 (cell_lt (hc 0 (by cases ts with | nil => exact absurd rfl hne | cons => simp)))⟩
theorem NdAt.single {w : World} {U : Nat → Prop} {b : Nat} {op : ByteArray} {vs : Value} {nt fd lz : Bool} {grp least most : Int} (hblk : Blk w b (nodeCells op vs nt fd (.slice none 0 0) grp least most lz) 74) (hlo : U b) (hop : OpOf op 0) : NdAt w U b single :=
  NdAt.mk b op vs nt fd lz grp least most 0 0 0 none 0 0 [] (fun _ => 0) hblk hlo hop (by omega) (fun h => absurd rfl h) (fun i h => by simp at h) (fun i h => by simp at h) (by simp)
theorem NdAt.lt {w : World} {U : Nat → Prop} {b : Nat} {T : PT} (h : NdAt w U b T) : U b ∧ b < w.heap.size := by
  cases h with
  | mk b op vs nt fd lz grp least most kk l hh ao cap bk ts P hblk hlo hop hlm hb hc hk hr => exact ⟨hlo, hblk.lt⟩

/-- the blocks that are new between two sizes, but for that of the names -/
def Fr (lo hi : Nat) (vn : Value) : Nat → Prop := fun i => lo ≤ i ∧ i < hi ∧ vn.ownBlock ≠ some i
/-- what a call that makes a piece leaves -/
def NdPost (w : World) (t : TG) (g : RG) (fold : Int) (vn : Value) (x : RS × PT) (e : Ending) (w' : World) : Prop :=
  ∃ b vn' nl', e = .returned (.pointer (some ⟨b, 0, none⟩)) ∧ TrAt w' t g x.1 fold vn' nl' ∧ NdAt w' (Fr w.heap.size w'.heap.size vn') b x.2 ∧ Kept (fun i => i = t.b ∨ vn.ownBlock = some i) w w' ∧ ∀ i, vn'.ownBlock = some i → vn.ownBlock = some i ∨ w.heap.size ≤ i

theorem TrAt.new {w0 w w' : World} {t : TG} {g : RG} {st st0 : RS} {fold fold0 : Int} {vn vn0 : Value} {nl nl0 : List (List UInt8)} (h : TrAt w t g st fold vn nl) (h0 : TrAt w0 t g st0 fold0 vn0 nl0) {S : Nat → Prop} (k : Kept S w w') (hs : ∀ i, S i → w0.heap.size ≤ i) (hv : ∀ b, vn.ownBlock = some b → ¬ S b) : TrAt w' t g st fold vn nl :=
  h.kept k (fun i hi hx => by
    rcases hi with rfl | ⟨hl, rfl⟩ | hb
    · have := h0.blt; have := hs _ hx; omega
    · have := (h0.gl.isSome hl).2.2; have := hs _ hx; omega
    · exact hv i hb hx)

/-! ## letters -/
theorem add_at (b j : Nat) : Addr.add ⟨b, 0, none⟩ j = ⟨b, j, none⟩ := by
  unfold Addr.add
  split
  · rename_i h; simp
  · simp
theorem new_news (w : World) (cs : Array Value) (t : TypeId) (j : Nat) (u : Value) (h : cs.toList[j]? = some u) : (w.alloc (.cells cs t)).cell? (Addr.add ⟨w.heap.size, 0, none⟩ j) = some u := by
  rw [add_at, (Blk.new w cs t).cell j]
  simpa using h
theorem ints_one (l : List Int) : ∀ u ∈ l.map (Value.int .i64), u.oneCell' = true := by
  intro u hu
  obtain ⟨x, _, rfl⟩ := List.mem_map.1 hu
  rfl

theorem letters_any (r : Int) (w : World) :
    Calls Try.prog 50 #[.int .i64 r] w fun e w' => ∃ (ad : Addr) (m : Nat) (news : List Value), e = .returned (.slice (some ad) m m) ∧ news.length = m * 2 ∧ m ≤ 4 ∧ (∀ j u, news[j]? = some u → w'.cell? (ad.add j) = some u) ∧ (∀ u ∈ news, u.oneCell' = true) ∧ Kept Nil w w' := by
  go_enter Try.func50, Try.ntmps50
  go_wp2_with fail
  all_goals go_ret
  · exact ⟨⟨w.heap.size, 0, none⟩, 1, [48, 57].map (Value.int .i64), rfl, rfl, by omega, new_news _ _ _, ints_one _, (Kept.refl _ _).alloc _⟩
  · exact ⟨⟨w.heap.size, 0, none⟩, 1, [48, 57].map (Value.int .i64), rfl, rfl, by omega, new_news _ _ _, ints_one _, (Kept.refl _ _).alloc _⟩
  · exact ⟨⟨w.heap.size, 0, none⟩, 4, [97, 122, 65, 90, 48, 57, 95, 95].map (Value.int .i64), rfl, rfl, by omega, new_news _ _ _, ints_one _, (Kept.refl _ _).alloc _⟩
  · exact ⟨⟨w.heap.size, 0, none⟩, 4, [97, 122, 65, 90, 48, 57, 95, 95].map (Value.int .i64), rfl, rfl, by omega, new_news _ _ _, ints_one _, (Kept.refl _ _).alloc _⟩
  · exact ⟨⟨w.heap.size, 0, none⟩, 3, [9, 10, 13, 13, 32, 32].map (Value.int .i64), rfl, rfl, by omega, new_news _ _ _, ints_one _, (Kept.refl _ _).alloc _⟩

/-! ## where nothing is refused: items -/
theorem pOne_form {g : RG} {esc : Bool} {st : RS} (h : (pOne g esc st).1.flt.form = none) : st.flt.form = none := by
  unfold pOne at h
  cases esc
  · exact (needOtherSt_form h).2.2.1
  · exact (needSt_form h).2.1
theorem pOne'_form {g : RG} {st : RS} (h : (pOne' g st).1.flt.form = none) : st.flt.form = none := by
  have := pOne_form (g := g) (esc := inSet lBack (seeOf g st)) (st := takeOf g lBack st) h
  rw [takeOf_form] at this
  exact this
theorem pUpto_form {g : RG} {p : Int} {x : RS × Int} (h : (pUpto g p x).flt.form = none) : x.1.flt.form = none := by
  unfold pUpto at h
  split at h
  · split at h
    · rw [note_form (by omega)] at h; exact pOne'_form (st := { x.1 with next := x.1.next + 1 }) h
    · exact pOne'_form (st := { x.1 with next := x.1.next + 1 }) h
  · exact h
theorem pItem_form {g : RG} {st : RS} (h : (pItem g st).flt.form = none) : st.flt.form = none := by
  unfold pItem at h
  split at h
  · exact h
  · exact pOne'_form (pUpto_form h)
theorem pItems_form {g : RG} : ∀ {m : Nat} {st : RS}, (pItems g m st).flt.form = none → st.flt.form = none
  | 0, _, h => h
  | m + 1, st, h => by
    unfold pItems at h
    split at h
    · exact h
    · exact pItem_form (pItems_form h)

/-- a ONE that is not refused: what it is -/
theorem pOne'_cases {g : RG} {st : RS} (h : (pOne' g st).1.flt.form = none) :
    (seeOf g st ≠ 92 ∧ seeOf g st ≠ -1 ∧ inSet lNotOne (seeOf g st) = false ∧ pOne' g st = ({ st with next := st.next + 1 }, seeOf g st)) ∨
    (seeOf g st = 92 ∧ inSet lMarks (seeOf g { st with next := st.next + 1 }) = true ∧ pOne' g st = ({ st with next := st.next + 2 }, escRune (seeOf g { st with next := st.next + 1 }))) := by
  have hb : inSet lBack (seeOf g st) = (seeOf g st == 92) := by
    unfold inSet lBack
    simp only [List.any_cons, List.any_nil, Bool.or_false]
    rw [Bool.eq_iff_iff]
    simp only [beq_iff_eq]
    exact ⟨fun h => h.symm, fun h => h.symm⟩
  unfold pOne' at h ⊢
  rw [hb] at h ⊢
  by_cases he : seeOf g st = 92
  · right
    have e1 : takeOf g lBack st = { st with next := st.next + 1 } := by unfold takeOf; rw [hb, if_pos (by simp [he])]
    have e2 : (seeOf g st == 92) = true := by simp [he]
    rw [e1, e2] at h ⊢
    unfold pOne at h ⊢
    simp only [if_true] at h ⊢
    obtain ⟨h1, h2, h3⟩ := needSt_form h
    exact ⟨he, h1, by rw [h3]⟩
  · left
    have e1 : takeOf g lBack st = st := by unfold takeOf; rw [hb, if_neg (by simp [he])]
    have e2 : (seeOf g st == 92) = false := by simp [he]
    rw [e1, e2] at h ⊢
    unfold pOne at h ⊢
    simp only [Bool.false_eq_true, if_false] at h ⊢
    obtain ⟨h1, h2, h3, h4⟩ := needOtherSt_form h
    exact ⟨he, h1, h2, by rw [h4]⟩

/-- plainRune where the program's ONE is not refused -/
theorem plain_one {w : World} {t : TG} {g : RG} {st : RS} {fold : Int} {vn : Value} {nl : List (List UInt8)} (h : TrAt w t g st fold vn nl) (hf : (pOne' g st).1.flt.form = none) :
    Calls Try.prog 51 #[.pointer (some ⟨t.b, 0, none⟩)] w fun e w' => e = .returned (.int .i64 (pOne' g st).2) ∧ TrAt w' t g (pOne' g st).1 fold vn nl ∧ Kept (fun i => i = t.b) w w' := by
  have hlr := h.lenr
  rcases pOne'_cases hf with ⟨h1, h2, h3, h4⟩ | ⟨h1, h2, h4⟩
  · rw [h4]
    exact plainA h (by have := lt_of_see h2; omega) h1
  · rw [h4]
    have := seeOf_lt h2
    exact plainB h (by simp only at this; omega) h1

theorem Try.infoSpan : (Try.prog.info? 82).map (fun i => (i.zero, i.size, i.bytes)) = some (some (.agg #[.int .i64 0, .int .i64 0]), 2, 16) := by kernel_rfl

theorem inOne (b : UInt8) (r : Int) : inSet [b] r = (r == (b.toNat : Int)) := by
  unfold inSet
  simp only [List.any_cons, List.any_nil, Bool.or_false]
  rw [Bool.eq_iff_iff]
  simp only [beq_iff_eq]
  exact ⟨fun h => h.symm, fun h => h.symm⟩

/-- the order of a class is noted -/
theorem TrAt.setOrder {w : World} {t : TG} {g : RG} {st : RS} {fold : Int} {vn : Value} {nl : List (List UInt8)} (h : TrAt w t g st fold vn nl) (p : Int) (hp : 0 ≤ p) (hn : st.flt.cls = none) : TrAt (w.setCell ⟨t.b, 5, none⟩ (.int .i64 p)) t g (st.note 5 p) fold vn nl := by
  have e : st.note 5 p = { st with flt := { st.flt with cls := some p } } := by simp [RS.note, Flt.note, Flt.get, hn, Flt.put]
  have k : Kept (fun i => i = t.b) w (w.setCell ⟨t.b, 5, none⟩ (.int .i64 p)) := own1 5 _
  rw [e]
  exact { h with
    blk := h.blk.setCell 5 _
    gl := h.gl.kept k (fun hl => h.ne hl)
    names := ownsRow_kept h.names k (fun b hb he => by have := (ownsRow_block h.names hb).1; omega)
    nrel := h.nrel
    groups := h.groups
    fold0 := h.fold0
    fok := ⟨h.fok.1, fun q hq => by simp at hq; omega, h.fok.2.2⟩ }
theorem TrAt.keepOrder {w : World} {t : TG} {g : RG} {st : RS} {fold : Int} {vn : Value} {nl : List (List UInt8)} (h : TrAt w t g st fold vn nl) (p : Int) (hn : st.flt.cls ≠ none) : TrAt w t g (st.note 5 p) fold vn nl := by
  have e : st.note 5 p = st := by
    cases hc : st.flt.cls with
    | none => exact absurd hc hn
    | some q => simp [RS.note, Flt.note, Flt.get, hc]
  rw [e]; exact h

/-- a node that is being made, with its spans -/
structure SpAt (w : World) (nb : Nat) (vs : Value) (nt fd : Bool) (k : Nat) : Prop where
  blk : Blk w nb (nodeCells sRune vs nt fd (.slice none 0 0) 0 0 0 false) 74
  own : ∃ xs, w.ownsRow (nb + 1) 82 2 vs k xs
theorem SpAt.kept {w w' : World} {nb : Nat} {vs : Value} {nt fd : Bool} {k : Nat} {S : Nat → Prop} (h : SpAt w nb vs nt fd k) (kk : Kept S w w') (hs : ∀ i, S i → i < nb) : SpAt w' nb vs nt fd k := by
  obtain ⟨xs, hx⟩ := h.own
  exact ⟨h.blk.kept kk (fun hx => by have := hs _ hx; omega), xs, ownsRow_kept hx kk (fun b hb he => by have := (ownsRow_block hx hb).1; have := hs _ he; omega)⟩
theorem SpAt.push {w w1 w' : World} {nb : Nat} {vs v' : Value} {nt fd : Bool} {k m : Nat} {xs : List Value} (h : SpAt w nb vs nt fd k) (hv : ∀ b, vs.ownBlock = some b → nb + 1 ≤ b) (k1 : Kept Nil w w1) (hown : w'.ownsRow (nb + 1) 82 2 v' (k + m) xs) (hg : w1.grownBy w' vs.ownBlock) :
    SpAt (w'.setCell ⟨nb, 1, none⟩ v') nb v' nt fd (k + m) := by
  have kk : Kept (fun i => vs.ownBlock = some i) w w' := (k1.mono (fun _ hx => hx.elim)).grown hg (fun j hj => Or.inl hj)
  have k2 : Kept (fun i => i = nb) w' (w'.setCell ⟨nb, 1, none⟩ v') := (Kept.refl (fun i => i = nb) w').setCell (p := ⟨nb, 1, none⟩) (Or.inl rfl) v'
  exact ⟨(h.blk.kept kk (fun hx => by have := hv _ hx; omega)).setCell 1 v', xs, ownsRow_kept hown k2 (fun b hb he => by have := (ownsRow_block hown hb).1; omega)⟩

theorem TrAt.names_b {w : World} {t : TG} {g : RG} {st : RS} {fold : Int} {vn : Value} {nl : List (List UInt8)} (h : TrAt w t g st fold vn nl) {b : Nat} (hb : vn.ownBlock = some b) : t.b < b ∧ b < w.heap.size := by
  have := ownsRow_block h.names hb; omega

theorem rune_op : OpOf sRune 0 := Or.inr (Or.inr (Or.inr ⟨Or.inl rfl, by rw [Lib.toList_data]; decide, by rw [Lib.toList_data]; decide, by rw [Lib.toList_data]; decide⟩))
theorem lSquare_eq (r : Int) : inSet lSquare r = (r == 93) := inOne 93 r
theorem lDash_eq (r : Int) : inSet lDash r = (r == 45) := inOne 45 r
theorem lBack_eq (r : Int) : inSet lBack r = (r == 92) := inOne 92 r
theorem lCaret_eq (r : Int) : inSet lCaret r = (r == 94) := inOne 94 r
theorem pItem_head {g : RG} {st : RS} (h : (pItem g st).flt.form = none) : seeOf g st ≠ -1 ∧ inSet lSquare (seeOf g st) = false := by
  unfold pItem at h
  split at h
  · rename_i hc
    have := hc.1
    rw [lBack_eq] at this
    have e := beq_iff_eq.1 this
    rw [e]; exact ⟨by omega, by decide⟩
  · rcases pOne'_cases (pUpto_form h) with ⟨h1, h2, h3, _⟩ | ⟨h1, _, _⟩
    · refine ⟨h2, ?_⟩
      rw [lSquare_eq]
      cases hx : (seeOf g st == 93)
      · rfl
      · have e := beq_iff_eq.1 hx
        rw [e] at h3
        revert h3; decide
    · rw [h1]; exact ⟨by omega, by decide⟩
theorem pItems_succ {g : RG} {m : Nat} {st : RS} (h1 : seeOf g st ≠ -1) (h2 : inSet lSquare (seeOf g st) = false) : pItems g (m + 1) st = pItems g m (pItem g st) := by
  rw [show pItems g (m + 1) st = if seeOf g st = -1 ∨ inSet lSquare (seeOf g st) = true then st else pItems g m (pItem g st) from rfl, if_neg (by simp [h1, h2])]
theorem orNeg_none {o : Option Int} (h : o = none) : orNeg o = -1 := by rw [h]; rfl

end Go.Proofs.Ytlimhofdonkljaa
