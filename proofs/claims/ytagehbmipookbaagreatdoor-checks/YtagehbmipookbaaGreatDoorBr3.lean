/- The reference's tree: words for a bracket with a name. -/
import Derived.Test.YtagehbmipookbaaGreatDoorBr2
namespace Go.Proofs.YtagehbmipookbaaGreatDoor
open Go.RowKit Go.Maps
set_option linter.unusedVariables false
set_option maxRecDepth 100000

theorem pLetters_eq (g : RG) (first : Nat) : ∀ (m : Nat) (st : RS), pLetters g first m st = { st with next := (pLetters g first m st).next }
  | 0, _ => rfl
  | m + 1, st => by
    unfold pLetters
    split
    · exact pLetters_eq g first m { st with next := st.next + 1 }
    · rfl
theorem pLetters_all (g : RG) (first : Nat) : ∀ (m : Nat) (st : RS) (j : Nat), st.next ≤ j → j < (pLetters g first m st).next → inSet lLetters (g.rs.getD j (-1)) = true
  | 0, st, j, h1, h2 => by simp only [pLetters] at h2; omega
  | m + 1, st, j, h1, h2 => by
    unfold pLetters at h2
    split at h2
    · rename_i hc
      by_cases hj : j = st.next
      · subst hj; exact hc.2
      · exact pLetters_all g first m { st with next := st.next + 1 } j (by simp; omega) h2
    · omega

/-- the bytes of the runes from one place up to another -/
def bytesOf (g : RG) (a b : Nat) : List UInt8 := ((g.rs.take b).drop a).map fun r => UInt8.ofNat r.toNat
theorem bytesOf_nil (g : RG) (a : Nat) : bytesOf g a a = [] := by simp [bytesOf]
theorem bytesOf_succ (g : RG) (a b : Nat) (hab : a ≤ b) (hb : b < g.rs.length) : bytesOf g a (b + 1) = bytesOf g a b ++ [UInt8.ofNat (g.rs.getD b (-1)).toNat] := by
  unfold bytesOf
  rw [List.take_succ_eq_append_getElem hb, List.drop_append_of_le_length (by simp; omega)]
  simp [List.getD, List.getElem?_eq_getElem hb]
theorem bytesOf_length (g : RG) (a b : Nat) (hb : b ≤ g.rs.length) : (bytesOf g a b).length = b - a := by
  simp [bytesOf]; omega

theorem letters_range {r : Int} (h : inSet lLetters r = true) : 97 ≤ r ∧ r ≤ 122 := by
  unfold inSet lLetters at h
  simp only [List.any_cons, List.any_nil, Bool.or_false, Bool.or_eq_true, beq_iff_eq] at h
  rcases h with h | h | h | h | h | h | h | h | h | h | h | h | h | h | h | h | h | h | h | h | h | h | h | h | h | h <;> rw [← h] <;> decide

theorem encode_letter (r : Int) (h : 97 ≤ r ∧ r ≤ 122) : (Utf8.encode r).data.toList = [UInt8.ofNat r.toNat] := by
  have : r = 97 ∨ r = 98 ∨ r = 99 ∨ r = 100 ∨ r = 101 ∨ r = 102 ∨ r = 103 ∨ r = 104 ∨ r = 105 ∨ r = 106 ∨ r = 107 ∨ r = 108 ∨ r = 109 ∨ r = 110 ∨ r = 111 ∨ r = 112 ∨ r = 113 ∨ r = 114 ∨ r = 115 ∨ r = 116 ∨ r = 117 ∨ r = 118 ∨ r = 119 ∨ r = 120 ∨ r = 121 ∨ r = 122 := by omega
  rcases this with h | h | h | h | h | h | h | h | h | h | h | h | h | h | h | h | h | h | h | h | h | h | h | h | h | h <;> subst h <;> rfl
theorem runesBytes_letters (l : List Int) (hl : ∀ r ∈ l, 97 ≤ r ∧ r ≤ 122) : runesToBytes l = l.map fun r => UInt8.ofNat r.toNat := by
  have key : ∀ (l : List Int) (acc : ByteArray), (∀ r ∈ l, 97 ≤ r ∧ r ≤ 122) → (l.foldl (fun r n => r ++ Utf8.encode n) acc).data.toList = acc.data.toList ++ l.map fun r => UInt8.ofNat r.toNat := by
    intro l
    induction l with
    | nil => intro acc _; simp
    | cons a l ih =>
      intro acc h
      rw [List.foldl_cons, ih _ (fun r hr => h r (List.mem_cons_of_mem _ hr))]
      rw [ByteArray.data_append, Array.toList_append, encode_letter a (h a List.mem_cons_self)]
      simp
  unfold runesToBytes runesBytes
  rw [key l _ hl]
  rfl

theorem NRel.named {st : RS} {nl : List (List UInt8)} (h : NRel st nl) (x : List UInt8) (hx : x ≠ []) (hnew : nl.any (fun y => y == x) = false) : NRel { st with groups := st.groups + 1, names := (x, st.groups + 1) :: st.names } (nl ++ [x]) := by
  have hne : ∀ j : Nat, nl[j]? = some x → False := by
    intro j hj
    rw [List.any_eq_false] at hnew
    obtain ⟨hl, he⟩ := List.getElem?_eq_some_iff.1 hj
    exact hnew _ (List.getElem_mem hl) (by rw [he]; simp)
  refine ⟨by simp [h.1], fun y hy => ?_, fun p hp => ?_, fun hn y i hy => ?_⟩
  · simp only [List.any_cons, List.any_append, List.any_nil, Bool.or_false]
    rw [h.2.1 y hy, Bool.or_comm]
  · rcases List.mem_cons.1 hp with rfl | hp
    · exact hx
    · exact h.2.2.1 p hp
  · simp only [List.mem_cons, Prod.mk.injEq]
    rw [h.2.2.2 hn y i hy]
    constructor
    · rintro (⟨rfl, rfl⟩ | ⟨j, rfl, hj⟩)
      · exact ⟨nl.length, by rw [h.1], by simp⟩
      · refine ⟨j, rfl, ?_⟩
        rw [List.getElem?_append_left (List.getElem?_eq_some_iff.1 hj).1]; exact hj
    · rintro ⟨j, rfl, hj⟩
      by_cases hlt : j < nl.length
      · rw [List.getElem?_append_left hlt] at hj
        exact Or.inr ⟨j, rfl, hj⟩
      · rw [List.getElem?_append_right (by omega)] at hj
        cases hd : j - nl.length with
        | zero =>
          rw [hd] at hj
          simp at hj
          exact Or.inl ⟨hj.symm, by have := h.1; omega⟩
        | succ m => rw [hd] at hj; simp at hj
theorem NRel.twice {st : RS} {nl : List (List UInt8)} (h : NRel st nl) (x : List UInt8) (hx : x ≠ []) (hold : nl.any (fun y => y == x) = true) (hn : st.flt.nam ≠ none) : NRel { st with groups := st.groups + 1 } (nl ++ [x]) := by
  refine ⟨by simp [h.1], fun y hy => ?_, h.2.2.1, fun hn' => absurd hn' hn⟩
  simp only [List.any_append, List.any_cons, List.any_nil, Bool.or_false]
  rw [h.2.1 y hy]
  cases hxy : (x == y)
  · simp
  · have e : x = y := by simpa using hxy
    subst e
    rw [hold]; rfl

theorem TrAt.setNam {w : World} {t : TG} {g : RG} {st : RS} {fold : Int} {vn : Value} {nl : List (List UInt8)} (h : TrAt w t g st fold vn nl) (p : Int) (hp : 0 ≤ p) (hn : st.flt.nam = none) : TrAt (w.setCell ⟨t.b, 6, none⟩ (.int .i64 p)) t g (st.note 6 p) fold vn nl := by
  have e : st.note 6 p = { st with flt := { st.flt with nam := some p } } := by simp [RS.note, Flt.note, Flt.get, hn, Flt.put]
  have k : Kept (fun i => i = t.b) w (w.setCell ⟨t.b, 6, none⟩ (.int .i64 p)) := own1 6 _
  rw [e]
  exact { h with
    blk := h.blk.setCell 6 _
    gl := h.gl.kept k (fun hl => h.ne hl)
    names := ownsRow_kept h.names k (fun b hb he => by have := (ownsRow_block h.names hb).1; omega)
    nrel := ⟨h.nrel.1, h.nrel.2.1, h.nrel.2.2.1, fun hc => by simp at hc⟩
    groups := h.groups
    fold0 := h.fold0
    fok := ⟨h.fok.1, h.fok.2.1, fun q hq => by simp at hq; omega⟩ }
theorem note6_some {st : RS} (p : Int) (hn : st.flt.nam ≠ none) : st.note 6 p = st := by
  cases hc : st.flt.nam with
  | none => exact absurd hc hn
  | some q => simp [RS.note, Flt.note, Flt.get, hc]
theorem note6_nam (st : RS) (p : Int) : (st.note 6 p).flt.nam ≠ none := by
  cases hc : st.flt.nam with
  | none => simp [RS.note, Flt.note, Flt.get, hc, Flt.put]
  | some q => simp [RS.note, Flt.note, Flt.get, hc]
/-- the names are noted where one is there already -/
def namNote (st : RS) (nl : List (List UInt8)) (x : List UInt8) (p : Int) : RS := if nl.any (fun y => y == x) then st.note 6 p else st
theorem namNote_nil (st : RS) (x : List UInt8) (p : Int) : namNote st [] x p = st := rfl
theorem namNote_next (st : RS) (nl : List (List UInt8)) (x : List UInt8) (p : Int) : (namNote st nl x p).next = st.next := by unfold namNote; split <;> rfl
theorem namNote_groups (st : RS) (nl : List (List UInt8)) (x : List UInt8) (p : Int) : (namNote st nl x p).groups = st.groups := by unfold namNote; split <;> rfl
theorem namNote_hit (st : RS) (nl : List (List UInt8)) (y x : List UInt8) (p : Int) (h : (y == x) = true) : namNote st (nl ++ [y]) x p = (namNote st nl x p).note 6 p := by
  unfold namNote
  simp only [List.any_append, List.any_cons, List.any_nil, Bool.or_false, h, Bool.or_true, if_true]
  split
  · rw [note6_some _ (note6_nam st p)]
  · rfl
theorem namNote_miss (st : RS) (nl : List (List UInt8)) (y x : List UInt8) (p : Int) (h : (y == x) = false) : namNote st (nl ++ [y]) x p = namNote st nl x p := by
  unfold namNote
  simp only [List.any_append, List.any_cons, List.any_nil, Bool.or_false, h]
end Go.Proofs.YtagehbmipookbaaGreatDoor
