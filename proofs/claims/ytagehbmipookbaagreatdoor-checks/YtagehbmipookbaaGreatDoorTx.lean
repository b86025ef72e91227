/- The document's tries, as plain functions: what must come is a list (a stack) of pieces; the first try of it. Nothing of the program is proved here. -/
import Derived.Test.YtagehbmipookbaaGreatDoorRt
namespace Go.Proofs.YtagehbmipookbaaGreatDoor
set_option linter.unusedVariables false
set_option maxRecDepth 100000

def RT.op : RT → ByteArray | .node op _ _ _ _ _ _ _ _ => op
def RT.sp : RT → List (Int × Int) | .node _ sp _ _ _ _ _ _ _ => sp
def RT.nt : RT → Bool | .node _ _ nt _ _ _ _ _ _ => nt
def RT.fd : RT → Bool | .node _ _ _ fd _ _ _ _ _ => fd
def RT.kids : RT → List RT | .node _ _ _ _ ks _ _ _ _ => ks
def RT.grp : RT → Int | .node _ _ _ _ _ g _ _ _ => g
def RT.least : RT → Int | .node _ _ _ _ _ _ l _ _ => l
def RT.most : RT → Int | .node _ _ _ _ _ _ _ m _ => m
def RT.lz : RT → Bool | .node _ _ _ _ _ _ _ _ z => z

/-- what must come: a piece with its times as they are by now (turn: of a star, to which one comes back behind a turn), or the end of a group -/
structure CI where
  n : Option RT
  least : Int
  most : Int
  grp : Int
  turn : Bool

def pieceOf (n : RT) : CI := ⟨some n, n.least, n.most, 0, false⟩
def closeOf (k : Int) : CI := ⟨none, 0, 0, k, false⟩
/-- what must come behind a turn of a piece with times -/
def restOf (n : RT) (c : CI) : CI :=
  if 0 < c.least then ⟨some n, c.least - 1, if 0 < c.most then c.most - 1 else c.most, 0, false⟩
  else if 0 < c.most then ⟨some n, 0, c.most - 1, 0, false⟩
  else if c.turn = false then ⟨some n, 0, -1, 0, true⟩
  else c
/-- what must come in the stead of a piece -/
def layOf (n : RT) (c : CI) (S : List CI) : List (List CI) :=
  if n.op = sSeq then [n.kids.map pieceOf ++ S]
  else if n.op = sAlt then n.kids.map (fun k => pieceOf k :: S)
  else if n.op = sGroup then (n.kids.take 1).map (fun k => pieceOf k :: closeOf n.grp :: S)
  else if n.op = sBare then (n.kids.take 1).map (fun k => pieceOf k :: S)
  else if n.op = sTimes then (n.kids.take 1).map (fun k => pieceOf k :: restOf n c :: S)
  else []

/-- a text: its runes with their places, its length in bytes -/
structure TX where
  l : List (Nat × Int)
  len : Nat
def TX.bound (x : TX) (i : Nat) : Int := ((x.l.map fun p => (p.1 : Int))[i]?).getD x.len
def TX.rune (x : TX) (i : Nat) : Int := ((x.l.map (·.2))[i]?).getD (-1)
def inSpans (sp : List (Int × Int)) (r : Int) : Bool := sp.any fun p => decide (p.1 ≤ r) && decide (r ≤ p.2)
def letterOf (r : Int) : Bool := (decide (97 ≤ r) && decide (r ≤ 122)) || (decide (65 ≤ r) && decide (r ≤ 90))
def otherOf (r : Int) : Int := if 97 ≤ r then r - 32 else r + 32
def takesOf (n : RT) (r : Int) : Bool := (inSpans n.sp r || (n.fd && letterOf r && inSpans n.sp (otherOf r))) != n.nt
def TX.word (x : TX) (i : Int) : Bool := decide (0 ≤ i) && decide (i < x.l.length) && inSpans (letterSpans 119) (x.rune i.toNat)
def TX.is (x : TX) (op : ByteArray) (i : Nat) : Bool :=
  if op = sCaret then i == 0 else if op = sDollar then i == x.l.length else if op = sSmallB then x.word ((i : Int) - 1) != x.word i else !(x.word ((i : Int) - 1) != x.word i)

/-- groups: the places of each (two thirds), where each began last (a third) -/
def openG (x : TX) (gs : List Int) (k : Int) (i : Nat) : List Int := gs.set (gs.length / 3 * 2 + k.toNat - 1) (x.bound i)
def closeG (x : TX) (gs : List Int) (k : Int) (i : Nat) : List Int :=
  (gs.set (2 * k.toNat - 2) ((gs[gs.length / 3 * 2 + k.toNat - 1]?).getD 0)).set (2 * k.toNat - 1) (x.bound i)

/-- the first of several that is known: 'none': not known; 'some none': there is none -/
def firstOf {α : Type} : List (Option (Option α)) → Option (Option α)
  | [] => some none
  | none :: _ => none
  | some (some r) :: _ => some (some r)
  | some none :: l => firstOf l

/-- the first try of what must come (S), from the i-th place; ts: where the turns of stars began that go on, the innermost first. With fuel: 'none': it was not enough -/
def goOn (x : TX) : Nat → List CI → Nat → List Int → List Nat → Option (Option (Nat × List Int))
  | 0, _, _, _, _ => none
  | _ + 1, [], i, gs, _ => some (some (i, gs))
  | f + 1, c :: S, i, gs, ts => match c.n with
    | none => goOn x f S i (closeG x gs c.grp i) ts
    | some n =>
      if n.op = sRune then (if decide (i < x.l.length) && takesOf n (x.rune i) then goOn x f S (i + 1) gs ts else some none)
      else if n.op = sTimes then
        if c.turn = true ∧ ts.head? = some i then some none
        else
          let to := if c.turn then ts.tail else ts
          let more := goOn x f S i gs to
          let inner := firstOf ((layOf n c S).map fun Z => goOn x f Z i gs (if c.least ≤ 0 ∧ c.most < 0 then i :: to else to))
          if 0 < c.least then inner
          else if c.most = 0 then more
          else if n.lz then firstOf [more, inner]
          else firstOf [inner, more]
      else if n.op = sSeq ∨ n.op = sAlt ∨ n.op = sGroup ∨ n.op = sBare then
        firstOf ((layOf n c S).map fun Z => goOn x f Z i (if n.op = sGroup then openG x gs n.grp i else gs) ts)
      else if x.is n.op i then goOn x f S i gs ts else some none

theorem firstOf_mono {α β : Type} {l : List β} {f h : β → Option (Option α)} (H : ∀ b ∈ l, ∀ r, f b = some r → h b = some r) {r : Option α} (e : firstOf (l.map f) = some r) : firstOf (l.map h) = some r := by
  induction l with
  | nil => exact e
  | cons b l ih =>
    simp only [List.map_cons] at e ⊢
    cases hf : f b with
    | none => rw [hf] at e; simp [firstOf] at e
    | some q =>
      rw [hf] at e
      rw [H b List.mem_cons_self q hf]
      cases q with
      | none => exact ih (fun c hc => H c (List.mem_cons_of_mem _ hc)) e
      | some q => exact e
theorem firstOf_pair {α : Type} {a b a' b' : Option (Option α)} (ha : ∀ r, a = some r → a' = some r) (hb : ∀ r, b = some r → b' = some r) {r : Option α} (e : firstOf [a, b] = some r) : firstOf [a', b'] = some r := by
  cases a with
  | none => simp [firstOf] at e
  | some q =>
    rw [ha q rfl]
    cases q with
    | some q => exact e
    | none =>
      cases b with
      | none => simp [firstOf] at e
      | some q => rw [hb q rfl]; exact e

/-- more fuel tells the same -/
theorem goOn_succ (x : TX) : ∀ (f : Nat) (S : List CI) (i : Nat) (gs : List Int) (ts : List Nat) (r : Option (Nat × List Int)), goOn x f S i gs ts = some r → goOn x (f + 1) S i gs ts = some r
  | 0, _, _, _, _, _, h => by simp [goOn] at h
  | f + 1, [], i, gs, ts, r, h => by simpa [goOn] using h
  | f + 1, c :: S, i, gs, ts, r, h => by
    have IH := fun S i gs ts r => goOn_succ x f S i gs ts r
    unfold goOn at h ⊢
    cases hn : c.n with
    | none => rw [hn] at h; exact IH _ _ _ _ _ h
    | some n =>
      rw [hn] at h
      simp only at h ⊢
      split at h
      · rename_i h1
        rw [if_pos h1]
        split at h
        · rename_i h2; rw [if_pos h2]; exact IH _ _ _ _ _ h
        · rename_i h2; rw [if_neg h2]; exact h
      · rename_i h1
        rw [if_neg h1]
        split at h
        · rename_i h2
          rw [if_pos h2]
          split at h
          · rename_i h3; rw [if_pos h3]; exact h
          · rename_i h3
            rw [if_neg h3]
            have hin : ∀ r, firstOf ((layOf n c S).map fun Z => goOn x f Z i gs (if c.least ≤ 0 ∧ c.most < 0 then i :: (if c.turn then ts.tail else ts) else (if c.turn then ts.tail else ts))) = some r → firstOf ((layOf n c S).map fun Z => goOn x (f + 1) Z i gs (if c.least ≤ 0 ∧ c.most < 0 then i :: (if c.turn then ts.tail else ts) else (if c.turn then ts.tail else ts))) = some r :=
              fun r hr => firstOf_mono (fun Z _ r hz => IH _ _ _ _ _ hz) hr
            have hmo := fun r => IH S i gs (if c.turn then ts.tail else ts) r
            split at h
            · rename_i h4; rw [if_pos h4]; exact hin _ h
            · rename_i h4
              rw [if_neg h4]
              split at h
              · rename_i h5; rw [if_pos h5]; exact hmo _ h
              · rename_i h5
                rw [if_neg h5]
                split at h
                · rename_i h6; rw [if_pos h6]; exact firstOf_pair hmo hin h
                · rename_i h6; rw [if_neg h6]; exact firstOf_pair hin hmo h
        · rename_i h2
          rw [if_neg h2]
          split at h
          · rename_i h3; rw [if_pos h3]; exact firstOf_mono (fun Z _ r hz => IH _ _ _ _ _ hz) h
          · rename_i h3
            rw [if_neg h3]
            split at h
            · rename_i h4; rw [if_pos h4]; exact IH _ _ _ _ _ h
            · rename_i h4; rw [if_neg h4]; exact h

theorem goOn_le {x : TX} {f h : Nat} (hle : f ≤ h) {S : List CI} {i : Nat} {gs : List Int} {ts : List Nat} {r : Option (Nat × List Int)} (e : goOn x f S i gs ts = some r) : goOn x h S i gs ts = some r := by
  induction hle with
  | refl => exact e
  | step _ ih => exact goOn_succ x _ _ _ _ _ _ ih

/-- the first try is this -/
def Res (x : TX) (S : List CI) (i : Nat) (gs : List Int) (ts : List Nat) (r : Option (Nat × List Int)) : Prop := ∃ f, goOn x f S i gs ts = some r
theorem Res.same {x : TX} {S : List CI} {i : Nat} {gs : List Int} {ts : List Nat} {r r' : Option (Nat × List Int)} (h : Res x S i gs ts r) (h' : Res x S i gs ts r') : r = r' := by
  obtain ⟨f, e⟩ := h
  obtain ⟨f', e'⟩ := h'
  have a := goOn_le (Nat.le_max_left f f') e
  have b := goOn_le (Nat.le_max_right f f') e'
  rw [a] at b
  exact Option.some.inj b

/-! ## what a try hangs on -/
/-- turns that are alike at a place: which of them began there -/
def Alike (i : Nat) : List Nat → List Nat → Prop
  | [], [] => True
  | a :: l, b :: m => a ≤ i ∧ b ≤ i ∧ (a = i ↔ b = i) ∧ Alike i l m
  | _, _ => False
theorem Alike.next {i : Nat} : ∀ {l m : List Nat}, Alike i l m → Alike (i + 1) l m
  | [], [], _ => trivial
  | a :: l, b :: m, h => ⟨by have := h.1; omega, by have := h.2.1; omega, by have := h.1; have := h.2.1; constructor <;> intro e <;> omega, Alike.next h.2.2.2⟩
  | [], _ :: _, h => h.elim
  | _ :: _, [], h => h.elim
theorem Alike.tail {i : Nat} : ∀ {l m : List Nat}, Alike i l m → Alike i l.tail m.tail
  | [], [], _ => trivial
  | _ :: _, _ :: _, h => h.2.2.2
  | [], _ :: _, h => h.elim
  | _ :: _, [], h => h.elim
theorem Alike.push {i : Nat} {l m : List Nat} (h : Alike i l m) : Alike i (i :: l) (i :: m) := ⟨Nat.le_refl _, Nat.le_refl _, Iff.rfl, h⟩
theorem Alike.head {i : Nat} : ∀ {l m : List Nat}, Alike i l m → (l.head? = some i ↔ m.head? = some i)
  | [], [], _ => Iff.rfl
  | a :: l, b :: m, h => by simp only [List.head?_cons, Option.some.injEq]; exact h.2.2.1
  | [], _ :: _, h => h.elim
  | _ :: _, [], h => h.elim

/-- the same end, whatever the groups -/
def SameEnd (r r' : Option (Nat × List Int)) : Prop := r.map (·.1) = r'.map (·.1)
theorem SameEnd.none {r : Option (Nat × List Int)} (h : SameEnd Option.none r) : r = Option.none := by
  cases r with
  | none => rfl
  | some p => simp [SameEnd] at h
theorem SameEnd.some {p : Nat × List Int} {r : Option (Nat × List Int)} (h : SameEnd (Option.some p) r) : ∃ g, r = Option.some (p.1, g) := by
  cases r with
  | none => simp [SameEnd] at h
  | some q =>
    simp only [SameEnd, Option.map_some, Option.some.injEq] at h
    exact ⟨q.2, by rw [h]⟩
theorem firstOf_same {β : Type} {l : List β} {f h : β → Option (Option (Nat × List Int))} (H : ∀ b ∈ l, ∀ r, f b = some r → ∃ r', h b = some r' ∧ SameEnd r r') {r : Option (Nat × List Int)} (e : firstOf (l.map f) = some r) : ∃ r', firstOf (l.map h) = some r' ∧ SameEnd r r' := by
  induction l with
  | nil => exact ⟨r, e, rfl⟩
  | cons b l ih =>
    simp only [List.map_cons] at e ⊢
    cases hf : f b with
    | none => rw [hf] at e; simp [firstOf] at e
    | some q =>
      rw [hf] at e
      obtain ⟨q', hq, hs⟩ := H b List.mem_cons_self q hf
      rw [hq]
      cases q with
      | none =>
        obtain rfl := hs.none
        exact ih (fun c hc => H c (List.mem_cons_of_mem _ hc)) e
      | some p =>
        obtain ⟨g, rfl⟩ := hs.some
        simp only [firstOf, Option.some.injEq] at e
        subst e
        exact ⟨_, rfl, rfl⟩
theorem goOn_alike (x : TX) : ∀ (f : Nat) (S : List CI) (i : Nat) (gs gs' : List Int) (ts ts' : List Nat), Alike i ts ts' → ∀ r, goOn x f S i gs ts = some r → ∃ r', goOn x f S i gs' ts' = some r' ∧ SameEnd r r'
  | 0, _, _, _, _, _, _, _, _, h => by simp [goOn] at h
  | f + 1, [], i, gs, gs', ts, ts', _, r, h => by
    simp only [goOn, Option.some.injEq] at h
    subst h
    exact ⟨_, rfl, rfl⟩
  | f + 1, c :: S, i, gs, gs', ts, ts', ha, r, h => by
    have IH := fun S i gs gs' ts ts' ha r => goOn_alike x f S i gs gs' ts ts' ha r
    unfold goOn at h ⊢
    cases hn : c.n with
    | none => rw [hn] at h; exact IH _ _ _ _ _ _ ha _ h
    | some n =>
      rw [hn] at h
      simp only at h ⊢
      split at h
      · rename_i h1
        rw [if_pos h1]
        split at h
        · rename_i h2; rw [if_pos h2]; exact IH _ _ _ _ _ _ ha.next _ h
        · rename_i h2; rw [if_neg h2]; exact ⟨r, h, rfl⟩
      · rename_i h1
        rw [if_neg h1]
        split at h
        · rename_i h2
          rw [if_pos h2]
          split at h
          · rename_i h3; rw [if_pos ⟨h3.1, ha.head.1 h3.2⟩]; exact ⟨r, h, rfl⟩
          · rename_i h3
            rw [if_neg (fun q => h3 ⟨q.1, ha.head.2 q.2⟩)]
            have hto : Alike i (if c.turn then ts.tail else ts) (if c.turn then ts'.tail else ts') := by
              split
              · exact ha.tail
              · exact ha
            generalize (if c.turn then ts.tail else ts) = to at *
            generalize (if c.turn then ts'.tail else ts') = to' at *
            have hin : ∀ r, firstOf ((layOf n c S).map fun Z => goOn x f Z i gs (if c.least ≤ 0 ∧ c.most < 0 then i :: to else to)) = some r → ∃ r', firstOf ((layOf n c S).map fun Z => goOn x f Z i gs' (if c.least ≤ 0 ∧ c.most < 0 then i :: to' else to')) = some r' ∧ SameEnd r r' :=
              fun r hr => firstOf_same (fun Z _ r hz => IH _ _ _ _ _ _ (by
                split
                · exact hto.push
                · exact hto) _ hz) hr
            have hmo := fun r => IH S i gs gs' to to' hto r
            split at h
            · rename_i h4; rw [if_pos h4]; exact hin _ h
            · rename_i h4
              rw [if_neg h4]
              split at h
              · rename_i h5; rw [if_pos h5]; exact hmo _ h
              · rename_i h5
                rw [if_neg h5]
                split at h
                · rename_i h6; rw [if_pos h6]
                  exact firstOf_same (l := [true, false]) (f := fun b => if b then _ else _) (h := fun b => if b then _ else _) (fun b _ r hb => by cases b; exact hin r hb; exact hmo r hb) h
                · rename_i h6; rw [if_neg h6]
                  exact firstOf_same (l := [true, false]) (f := fun b => if b then _ else _) (h := fun b => if b then _ else _) (fun b _ r hb => by cases b; exact hmo r hb; exact hin r hb) h
        · rename_i h2
          rw [if_neg h2]
          split at h
          · rename_i h3; rw [if_pos h3]; exact firstOf_same (fun Z _ r hz => IH _ _ _ _ _ _ ha _ hz) h
          · rename_i h3
            rw [if_neg h3]
            split at h
            · rename_i h4; rw [if_pos h4]; exact IH _ _ _ _ _ _ ha _ h
            · rename_i h4; rw [if_neg h4]; exact ⟨r, h, rfl⟩
/-- where there is none: none, whatever the groups and however the turns began that did not begin here -/
theorem Res.alike {x : TX} {S : List CI} {i : Nat} {gs gs' : List Int} {ts ts' : List Nat} (h : Res x S i gs ts none) (ha : Alike i ts ts') : Res x S i gs' ts' none := by
  obtain ⟨f, e⟩ := h
  obtain ⟨r', e', hs⟩ := goOn_alike x f S i gs gs' ts ts' ha none e
  obtain rfl := hs.none
  exact ⟨f, e'⟩
end Go.Proofs.YtagehbmipookbaaGreatDoor
