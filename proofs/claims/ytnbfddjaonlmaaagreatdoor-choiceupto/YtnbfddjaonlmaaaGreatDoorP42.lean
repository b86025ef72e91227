/- Words with bars between them: what the reader's mirror reads, and what its tries tell of a text of single bytes. Package trawlkeep's cut, quoted, stands. Package trawlkeep's choice: the events of some words. -/
import Derived.Test.YtnbfddjaonlmaaaGreatDoorP41
set_option linter.unusedVariables false
set_option maxRecDepth 100000
namespace Go.Proofs.YtnbfddjaonlmaaaGreatDoor

/-- the letters of Choice -/
def chLet : List UInt8 := [97, 98, 46, 42, 40]
def qOf (b : UInt8) : List UInt8 := if b = 46 ∨ b = 42 ∨ b = 40 then [92, b] else [b]
def quoL (wd : List UInt8) : List UInt8 := wd.flatMap qOf
def toI (l : List UInt8) : List Int := l.map fun b => (b.toNat : Int)
def lfC (b : UInt8) : CT := cLeaf [((b.toNat : Int), (b.toNat : Int))] false false
theorem q_item {d : Nat} {b : UInt8} (hb : b ∈ chLet) : SeqOk d (toI (qOf b)) [single] [lfC b] := by
  have hm : b = 97 ∨ b = 98 ∨ b = 46 ∨ b = 42 ∨ b = 40 := by simpa [chLet] using hb
  have key : ∀ {u : List Int}, AtomOk d u single (lfC b) → toI (qOf b) = u → SeqOk d (toI (qOf b)) [single] [lfC b] := fun {u} h e => by
    have := h.item RepOk.none
    rw [List.append_nil] at this
    rw [e]
    exact this
  rcases hm with rfl | rfl | rfl | rfl | rfl
  · exact key (AtomOk.plain (by decide) rfl rfl rfl rfl rfl rfl) rfl
  · exact key (AtomOk.plain (by decide) rfl rfl rfl rfl rfl rfl) rfl
  · exact key (AtomOk.esc rfl rfl rfl rfl rfl) rfl
  · exact key (AtomOk.esc rfl rfl rfl rfl rfl) rfl
  · exact key (AtomOk.esc rfl rfl rfl rfl rfl) rfl
theorem quoL_head {wd : List UInt8} (h : ∀ b ∈ wd, b ∈ chLet) : ∀ r, (toI (quoL wd)).head? = some r → NoRep r := by
  intro r hr
  cases wd with
  | nil => cases hr
  | cons b wd =>
    have hm : b = 97 ∨ b = 98 ∨ b = 46 ∨ b = 42 ∨ b = 40 := by simpa [chLet] using h b (List.mem_cons_self)
    rcases hm with rfl | rfl | rfl | rfl | rfl <;> (cases hr; exact ⟨rfl, rfl, rfl, rfl⟩)
theorem q_word {d : Nat} : ∀ {wd : List UInt8}, (∀ b ∈ wd, b ∈ chLet) → SeqOk d (toI (quoL wd)) (wd.map fun _ => single) (wd.map lfC)
  | [], _ => SeqOk.nil d
  | b :: wd, h => by
    have h1 := q_item (d := d) (h b (List.mem_cons_self))
    have h2 := q_word (d := d) (wd := wd) (fun c hc => h c (List.mem_cons_of_mem _ hc))
    have h3 := h1.append h2 (quoL_head (fun c hc => h c (List.mem_cons_of_mem _ hc)))
    have e : toI (quoL (b :: wd)) = toI (qOf b) ++ toI (quoL wd) := by
      show toI ((b :: wd).flatMap qOf) = _
      rw [List.flatMap_cons]
      exact List.map_append
    rw [e]
    exact h3
/-- the pattern of three words -/
def chPat (a b c : List UInt8) : List UInt8 := quoL a ++ ([124] ++ (quoL b ++ ([124] ++ quoL c)))
def chC (a b c : List UInt8) : CT := altC [seqC (a.map lfC), seqC (b.map lfC), seqC (c.map lfC)]
def chP (a b c : List UInt8) : PT := altP [seqP (a.map fun _ => single), seqP (b.map fun _ => single), seqP (c.map fun _ => single)]
theorem ch_ok {a b c : List UInt8} (ha : ∀ x ∈ a, x ∈ chLet) (hb : ∀ x ∈ b, x ∈ chLet) (hc : ∀ x ∈ c, x ∈ chLet) : ChOk 0 (toI (chPat a b c)) (chP a b c) (chC a b c) := by
  have h := (q_word (d := 0) ha).alt ((q_word (d := 0) hb).alts ((q_word (d := 0) hc).alts (AltsOk.nil 0)))
  have e : toI (chPat a b c) = toI (quoL a) ++ (124 :: (toI (quoL b) ++ (124 :: (toI (quoL c) ++ [])))) := by
    unfold chPat toI
    simp
  rw [e]
  exact h
theorem sizes_single : ∀ l : List UInt8, PT.sizes (l.map fun _ => single) ≤ l.length ∧ 0 ≤ PT.sizes (l.map fun _ => single)
  | [] => ⟨Int.le_refl _, Int.le_refl _⟩
  | b :: l => by
    have h := sizes_single l
    have e : PT.sizes ((b :: l).map fun _ => single) = PT.size single + PT.sizes (l.map fun _ => single) := by
      rw [List.map_cons, PT.sizes]
    have e1 : PT.size single = 1 := by decide
    rw [e, e1, List.length_cons]
    omega
theorem size_seq (l : List UInt8) : PT.size (seqP (l.map fun _ => single)) ≤ l.length ∧ 0 ≤ PT.size (seqP (l.map fun _ => single)) := by
  have h := sizes_single l
  have e : PT.size (seqP (l.map fun _ => single)) = min (PT.sizes (l.map fun _ => single)) 1001 := by
    unfold seqP
    rw [PT.size]
    simp
  rw [e]
  omega
theorem ch_size (a b c : List UInt8) (ha : a.length ≤ 10) (hb : b.length ≤ 10) (hc : c.length ≤ 10) : PT.size (chP a b c) ≤ 1000 := by
  have h1 := size_seq a
  have h2 := size_seq b
  have h3 := size_seq c
  have e : PT.size (chP a b c) = min (PT.size (seqP (a.map fun _ => single)) + (PT.size (seqP (b.map fun _ => single)) + (PT.size (seqP (c.map fun _ => single)) + 0)) + 2) 1001 := by
    unfold chP altP
    rw [PT.size]
    simp [PT.sizes]
  rw [e]
  omega

/-! ## words that stand in a text -/
def standsL (wd t : List UInt8) : Bool := wd.isPrefixOf t
theorem leaf_take {s : ByteArray} (h : Asc s) (b : UInt8) (k : Cont) (i : Nat) (gs : List Int) : takeC (txOf s) [((b.toNat : Int), (b.toNat : Int))] false false k i gs = if (s.data.toList.drop i).head? = some b then k (i + 1) gs else none := by
  have hl : (txOf s).l.length = s.size := h.len
  unfold takeC
  by_cases hi : i < s.size
  · have hi' : i < s.data.toList.length := by simpa using hi
    have e : s.get! i = s.data.toList[i] := by
      show s.data[i]! = _
      rw [getElem!_pos s.data i hi, Array.getElem_toList]
    rw [hl, decide_eq_true hi, Bool.true_and, h.rune hi, e, List.head?_drop, List.getElem?_eq_getElem hi']
    generalize s.data.toList[i] = c
    by_cases hc : c = b
    · subst hc
      simp [takesC, inSpans]
    · have hne : (c.toNat : Int) ≠ b.toNat := fun hx => hc (UInt8.toNat_inj.1 (by omega))
      have h1 : takesC [((b.toNat : Int), (b.toNat : Int))] false false (c.toNat : Int) = false := by
        simp [takesC, inSpans]
        omega
      rw [h1]
      simp [hc]
  · rw [hl, decide_eq_false hi, List.drop_eq_nil_of_le (by simp; omega)]
    simp
theorem word_sem {s : ByteArray} (h : Asc s) : ∀ (wd : List UInt8) (i : Nat) (gs : List Int), (semSeq (txOf s) (wd.map lfC) (doneC, doneC)).2 i gs = if standsL wd (s.data.toList.drop i) then some (i + wd.length, gs) else none
  | [], i, gs => by simp [semSeq, standsL, doneC]
  | b :: wd, i, gs => by
    have ih := word_sem h wd (i + 1) gs
    have e : (semSeq (txOf s) ((b :: wd).map lfC) (doneC, doneC)).2 = takeC (txOf s) [((b.toNat : Int), (b.toNat : Int))] false false (semSeq (txOf s) (wd.map lfC) (doneC, doneC)).2 := by
      simp [semSeq, semC, lfC, cLeaf]
    rw [e, leaf_take h]
    unfold standsL at ih ⊢
    cases hd : s.data.toList.drop i with
    | nil => simp
    | cons c t =>
      have hdt : s.data.toList.drop (i + 1) = t := by
        rw [← List.drop_drop, hd]
        rfl
      rw [hdt] at ih
      by_cases hc : c = b
      · subst hc
        simp only [List.head?_cons, if_true, ih, List.isPrefixOf_cons_cons, beq_self_eq_true, Bool.true_and, List.length_cons]
        congr 3
        omega
      · have hb : (b == c) = false := by simpa using fun e => hc e.symm
        simp [hc]
        intro e
        exact absurd e.symm hc
/-- how long the first word is that stands there; 0 if none does -/
def hitL (ws : List (List UInt8)) (t : List UInt8) : Nat := match ws with
  | [] => 0
  | w :: ws => if standsL w t then w.length else hitL ws t
theorem hit_le (t : List UInt8) : ∀ ws, hitL ws t ≤ t.length
  | [] => Nat.zero_le _
  | w :: ws => by
    unfold hitL
    split
    · rename_i h
      exact (List.isPrefixOf_iff_prefix.1 h).length_le
    · exact hit_le t ws
theorem try_ch {s : ByteArray} (h : Asc s) {a b c : List UInt8} (ha : a ≠ []) (hb : b ≠ []) (hc : c ≠ []) (i : Nat) : tryAt (chC a b c) 0 (txOf s) i = if hitL [a, b, c] (s.data.toList.drop i) = 0 then none else some (i + hitL [a, b, c] (s.data.toList.drop i), []) := by
  have la : a.length ≠ 0 := fun e => ha (List.length_eq_zero_iff.1 e)
  have lb : b.length ≠ 0 := fun e => hb (List.length_eq_zero_iff.1 e)
  have lc : c.length ≠ 0 := fun e => hc (List.length_eq_zero_iff.1 e)
  have e : (semC (txOf s) (chC a b c) (doneC, doneC)).2 = forkC (semSeq (txOf s) (a.map lfC) (doneC, doneC)).2 (forkC (semSeq (txOf s) (b.map lfC) (doneC, doneC)).2 (semSeq (txOf s) (c.map lfC) (doneC, doneC)).2) := by
    simp [chC, altC, seqC, semC, semAlt, forkP]
  unfold tryAt
  rw [e]
  unfold forkC
  rw [word_sem h, word_sem h, word_sem h]
  simp only [hitL, Nat.mul_zero, List.replicate_zero]
  by_cases hA : standsL a (s.data.toList.drop i) = true
  · simp [hA, la]
  · by_cases hB : standsL b (s.data.toList.drop i) = true
    · simp [hA, hB, lb]
    · by_cases hC : standsL c (s.data.toList.drop i) = true
      · simp [hA, hB, hC, lc]
      · simp [hA, hB, hC]
/-! ## from left to right -/
def goK (n : Nat) (h : Nat → Nat) : Nat → Nat → List (Nat × Nat)
  | 0, _ => []
  | f + 1, i => if n ≤ i then [] else if h i = 0 then goK n h f (i + 1) else (i, i + h i) :: goK n h f (i + h i)
def goF (n : Nat) (h : Nat → Nat) (i : Nat) : List (Nat × Nat) := goK n h (n - i) i
theorem goK_more (n : Nat) (h : Nat → Nat) : ∀ f g i, n - i ≤ f → f ≤ g → goK n h g i = goK n h f i
  | 0, 0, i, _, _ => rfl
  | 0, g + 1, i, hf, _ => by
    show (if n ≤ i then [] else _) = _
    rw [if_pos (by omega)]
    rfl
  | f + 1, 0, i, _, hg => by omega
  | f + 1, g + 1, i, hf, hg => by
    show (if n ≤ i then [] else if h i = 0 then goK n h g (i + 1) else (i, i + h i) :: goK n h g (i + h i)) = (if n ≤ i then [] else if h i = 0 then goK n h f (i + 1) else (i, i + h i) :: goK n h f (i + h i))
    by_cases hi : n ≤ i
    · rw [if_pos hi, if_pos hi]
    · rw [if_neg hi, if_neg hi]
      by_cases hz : h i = 0
      · rw [if_pos hz, if_pos hz, goK_more n h f g _ (by omega) (by omega)]
      · rw [if_neg hz, if_neg hz, goK_more n h f g _ (by omega) (by omega)]
theorem goF_end {n : Nat} {h : Nat → Nat} {i : Nat} (hi : n ≤ i) : goF n h i = [] := by
  unfold goF
  rw [show n - i = 0 by omega]
  rfl
theorem goF_no {n : Nat} {h : Nat → Nat} {i : Nat} (hi : i < n) (hz : h i = 0) : goF n h i = goF n h (i + 1) := by
  unfold goF
  obtain ⟨f, hf⟩ : ∃ f, n - i = f + 1 := ⟨n - i - 1, by omega⟩
  rw [hf]
  show (if n ≤ i then [] else if h i = 0 then goK n h f (i + 1) else _) = _
  rw [if_neg (by omega), if_pos hz, show n - (i + 1) = f by omega]
theorem goF_yes {n : Nat} {h : Nat → Nat} {i : Nat} (hi : i < n) (hz : h i ≠ 0) : goF n h i = (i, i + h i) :: goF n h (i + h i) := by
  unfold goF
  obtain ⟨f, hf⟩ : ∃ f, n - i = f + 1 := ⟨n - i - 1, by omega⟩
  rw [hf]
  show (if n ≤ i then [] else if h i = 0 then _ else (i, i + h i) :: goK n h f (i + h i)) = _
  rw [if_neg (by omega), if_neg hz, goK_more n h (n - (i + h i)) f _ (by omega) (by omega)]
theorem evs_go {T : Nat → Got} {n : Nat} {h : Nat → Nat} (hT : ∀ i, i ≤ n → T i = if h i = 0 then none else some (i + h i, [])) (hn : ∀ i, i ≤ n → i + h i ≤ n) (hg : GoesOn T n) :
    ∀ (d i : Nat) (told : Option Nat), n - i = d → i ≤ n → evsFrom T n i told = (goF n h i).map fun p => (⟨p.1, p.2, []⟩ : Ev) := by
  intro d
  induction d using Nat.strongRecOn with
  | ind d ih =>
    intro i told hd hi
    have hle := hn i hi
    have e := hT i hi
    by_cases hz : h i = 0
    · rw [if_pos hz] at e
      by_cases h0 : i = n
      · rw [evsFrom_none hi e, evsFrom_end (by omega), goF_end (by omega)]
        rfl
      · rw [evsFrom_none hi e, goF_no (by omega) hz, ih (n - (i + 1)) (by omega) _ _ rfl (by omega)]
    · rw [if_neg hz] at e
      rw [evsFrom_some hg hi e, if_neg (by omega), ih (n - (i + h i)) (by omega) _ _ rfl (by omega), goF_yes (i := i) (by omega) hz]
      rfl
theorem goK_in (n : Nat) (h : Nat → Nat) (hn : ∀ i, i ≤ n → i + h i ≤ n) : ∀ f i, ∀ q ∈ goK n h f i, q.1 ≤ n ∧ q.2 ≤ n
  | 0, i, q, hq => by cases hq
  | f + 1, i, q, hq => by
    unfold goK at hq
    by_cases hi : n ≤ i
    · rw [if_pos hi] at hq; cases hq
    · rw [if_neg hi] at hq
      by_cases hz : h i = 0
      · rw [if_pos hz] at hq; exact goK_in n h hn f _ q hq
      · rw [if_neg hz] at hq
        rcases List.mem_cons.1 hq with rfl | hq
        · exact ⟨by show i ≤ n; omega, hn i (by omega)⟩
        · exact goK_in n h hn f _ q hq
theorem goK_few (n : Nat) (h : Nat → Nat) : ∀ f i, (goK n h f i).length ≤ f
  | 0, i => Nat.le_refl _
  | f + 1, i => by
    unfold goK
    have h1 := goK_few n h f (i + 1)
    have h2 := goK_few n h f (i + h i)
    split
    · exact Nat.zero_le _
    · split
      · omega
      · simp; omega
/-- what Find tells of three words -/
theorem find_ch {p s : ByteArray} (hs : Asc s) {a b c : List UInt8} (hp : p.data.toList = chPat a b c) (ha : ∀ x ∈ a, x ∈ chLet) (hb : ∀ x ∈ b, x ∈ chLet) (hc : ∀ x ∈ c, x ∈ chLet) (la : a.length ≤ 10) (lb : b.length ≤ 10) (lc : c.length ≤ 10) (na : a ≠ []) (nb : b ≠ []) (nc : c ≠ []) :
    p.size ≤ 300 ∧ patE p = 0 ∧ patG p = 0 ∧ findE p s = (goF s.size (fun i => hitL [a, b, c] (s.data.toList.drop i)) 0).map fun q => (⟨q.1, q.2, []⟩ : Ev) := by
  have qlen : ∀ l : List UInt8, (quoL l).length ≤ 2 * l.length := fun l => by
    induction l with
    | nil => simp [quoL]
    | cons x l ih =>
      have e : quoL (x :: l) = qOf x ++ quoL l := by unfold quoL; rw [List.flatMap_cons]
      rw [e, List.length_append, List.length_cons]
      have : (qOf x).length ≤ 2 := by unfold qOf; split <;> simp
      omega
  have hsz : p.size ≤ 300 := by
    have e : p.size = p.data.toList.length := by simp
    rw [e, hp]
    have := qlen a; have := qlen b; have := qlen c
    unfold chPat
    simp
    omega
  have qasc : ∀ l : List UInt8, (∀ x ∈ l, x ∈ chLet) → ∀ x ∈ quoL l, x.toNat < 128 := fun l hl x hx => by
    obtain ⟨y, hy, hxy⟩ := List.mem_flatMap.1 hx
    have hm : y = 97 ∨ y = 98 ∨ y = 46 ∨ y = 42 ∨ y = 40 := by simpa [chLet] using hl y hy
    unfold qOf at hxy
    rcases hm with rfl | rfl | rfl | rfl | rfl <;> simp at hxy
    · subst hxy; decide
    · subst hxy; decide
    · rcases hxy with rfl | rfl <;> decide
    · rcases hxy with rfl | rfl <;> decide
    · rcases hxy with rfl | rfl <;> decide
  have hA : Asc p := fun x hx => by
    rw [hp] at hx
    unfold chPat at hx
    simp only [List.mem_append, List.mem_singleton] at hx
    rcases hx with hx | rfl | hx | rfl | hx
    · exact qasc a ha x hx
    · decide
    · exact qasc b hb x hx
    · decide
    · exact qasc c hc x hx
  have hI : bytesI p = toI (chPat a b c) := by unfold bytesI toI; rw [hp]
  have hok := ch_ok ha hb hc
  rw [← hI] at hok
  obtain ⟨h1, h2, h3⟩ := pat_whole hA hsz hok (Nat.zero_le _) (ch_size a b c la lb lc)
  refine ⟨hsz, h1, h2, ?_⟩
  have hgok := (patC_ok hsz h1).2.2.1
  have hg := tryAt_fwd hgok s
  unfold findE
  rw [h3, h2] at hg ⊢
  have hl := hs.len
  rw [hl] at hg ⊢
  refine evs_go (fun i hi => try_ch hs na nb nc i) (fun i hi => ?_) hg _ 0 none rfl (Nat.zero_le _)
  have h4 := hit_le (s.data.toList.drop i) [a, b, c]
  have h5 : (s.data.toList.drop i).length = s.size - i := by simp
  omega
end Go.Proofs.YtnbfddjaonlmaaaGreatDoor
namespace Go.Proofs.YtnbfddjaonlmaaaGreatDoor
open Go.RowKit Go.Maps

set_option maxHeartbeats 2000000 in
theorem cut_rd {w : World} {v : Value} {zs : List Int} (n : Nat) (hR : RawAt w v zs) (hz : zs.length ≤ 10000000) (hn : n ≤ 1000) : Calls Tryz.prog 8 #[v, .int .i64 (n : Int)] w fun e w' => (∃ v', e = .returned v' ∧ RawAt w v' (zs.take n)) ∧ w' = w := by
  rcases hR with ⟨rfl, rfl⟩ | ⟨a, c, rfl, hc, h3, h4⟩
  · go_enter Tryz.func8, Tryz.ntmps8
    have hd : ¬ ((n : Int) < 0) := by omega
    go_wp2_with fail
    go_ret
    exact ⟨⟨_, rfl, Or.inl ⟨rfl, by simp⟩⟩, rfl⟩
  · by_cases hlt : n < zs.length
    · have hd : ((n : Int) < (zs.length : Int)) := by omega
      have H3 := hid h3
      have H4 := hid h4
      clear h3 h4
      generalize hL : zs.length = L at *
      have HL := hid hL
      clear hL
      go_enter Tryz.func8, Tryz.ntmps8
      have hnc : (n : Int) ≤ (c : Int) := by omega
      have hnc2 : n ≤ c := by omega
      go_wp2_with fail
      go_ret
      have hlen : (zs.take n).length = n := by rw [List.length_take, HL.out]; omega
      refine ⟨⟨_, rfl, Or.inr ⟨a, c, by rw [hlen]; rfl, by omega, fun i hi => ?_, fun z hz' => H4.out z (List.mem_of_mem_take hz')⟩⟩, rfl⟩
      rw [hlen] at hi
      rw [H3.out i (by omega)]
      simp [List.getD_eq_getElem?_getD, hi]
    · have hd : ¬ ((n : Int) < (zs.length : Int)) := by omega
      go_enter Tryz.func8, Tryz.ntmps8
      go_wp2_with fail
      go_ret
      exact ⟨⟨_, rfl, Or.inr ⟨a, c, by rw [List.take_of_length_le (by omega)]; rfl, by rw [List.take_of_length_le (by omega)]; exact hc, by rw [List.take_of_length_le (by omega)]; exact h3, by rw [List.take_of_length_le (by omega)]; exact h4⟩⟩, rfl⟩
theorem ext_one (s : ByteArray) (i : Nat) (h : i < s.size) : s.extract i (i + 1) = ⟨#[s[i]]⟩ := by
  apply ByteArray.ext
  rw [ByteArray.data_extract]
  apply Array.ext
  · simp
    have : s.data.size = s.size := rfl
    omega
  · intro j h1 h2
    have hj : j = 0 := by simpa using h2
    subst hj
    simp
    rfl
theorem slice_at (s : ByteArray) (q : Nat) (h : q < s.size) (wx : World) : (Instr.slice 9 (.string s) (some (.int .i64 (q : Int))) (some (.int .i64 ((q : Int) + 1))) none).run Tryz.prog wx = .ok (.string ⟨#[s[q]]⟩) wx := by
  rw [slice_one s q h wx, ext_one s q h]
theorem one_ne {b c : UInt8} (h : b ≠ c) : ((⟨#[b]⟩ : ByteArray) == ⟨#[c]⟩) = false := by
  show ((#[b] : Array UInt8) == #[c]) = false
  simp [h]
theorem app_size (s : ByteArray) (b : UInt8) : (s ++ (⟨#[b]⟩ : ByteArray)).size = s.size + 1 := by rw [ByteArray.size_append]; rfl
theorem quoL_snoc (l : List UInt8) (b : UInt8) : quoL (l ++ [b]) = quoL l ++ qOf b := by unfold quoL; simp
set_option maxHeartbeats 4000000 in
theorem quoted_rd (wd : ByteArray) (w : World) (hs : wd.size ≤ 1000) : Calls Tryz.prog 10 #[.string wd] w fun e w' => (∃ s : ByteArray, e = .returned (.string s) ∧ s.data.toList = quoL wd.data.toList) ∧ w' = w := by
  go_enter Tryz.func10, Tryz.ntmps10
  go_wp2_with fail
  go_loopg [3, 4] wd.size (fun kk sv i wr => ∃ (s : ByteArray) (k : Nat), sv = .string s ∧ i = .int .i64 k ∧ k ≤ wd.size ∧ kk = wd.size - k ∧ s.size ≤ 2 * k ∧ Hid (s.data.toList = quoL (wd.data.toList.take k)) ∧ wr = w)
  case atStart => exact ⟨⟨#[]⟩, 0, rfl, rfl, Nat.zero_le _, rfl, Nat.zero_le _, rfl, rfl⟩
  case round =>
    obtain ⟨s, k, rfl, rfl, hk, rfl, hss, HS, rfl⟩ := hrel
    by_cases hlt : k < wd.size
    · have hsl := fun wx => slice_at wd k hlt wx
      have hlt' : k < wd.data.toList.length := by simpa using hlt
      have HB : Hid (quoL (wd.data.toList.take (k + 1)) = quoL (wd.data.toList.take k) ++ qOf (wd[k]'hlt)) := by
        have e : wd.data.toList.take (k + 1) = wd.data.toList.take k ++ [wd[k]'hlt] := by
          rw [List.take_add_one, List.getElem?_eq_getElem hlt', Array.getElem_toList]
          rfl
        show _ = _
        rw [e, quoL_snoc]
      clear hlt'
      generalize wd[k]'hlt = b at *
      by_cases hq : b = 46 ∨ b = 42 ∨ b = 40
      · have FIN : Hid (∀ t : ByteArray, t = s ++ ⟨#[92]⟩ ++ ⟨#[b]⟩ → t.data.toList = quoL (wd.data.toList.take (k + 1)) ∧ t.size ≤ 2 * (k + 1)) := fun t ht => by
          refine ⟨?_, by rw [ht]; simp only [app_size]; omega⟩
          rw [HB.out, ht, ← HS.out]
          unfold qOf
          rw [if_pos hq]
          simp [ByteArray.data_append]
        rcases hq with rfl | rfl | rfl
        · go_wp2_with fail
          go_roundg (wd.size - (k + 1))
          case measure => omega
          case rel => exact ⟨_, k + 1, rfl, by go_num, by omega, rfl, (FIN.out _ rfl).2, (FIN.out _ rfl).1, rfl⟩
        · have n1 := one_ne (show (42 : UInt8) ≠ 46 by decide)
          go_wp2_with fail
          go_roundg (wd.size - (k + 1))
          case measure => omega
          case rel => exact ⟨_, k + 1, rfl, by go_num, by omega, rfl, (FIN.out _ rfl).2, (FIN.out _ rfl).1, rfl⟩
        · have n1 := one_ne (show (40 : UInt8) ≠ 46 by decide)
          have n2 := one_ne (show (40 : UInt8) ≠ 42 by decide)
          go_wp2_with fail
          go_roundg (wd.size - (k + 1))
          case measure => omega
          case rel => exact ⟨_, k + 1, rfl, by go_num, by omega, rfl, (FIN.out _ rfl).2, (FIN.out _ rfl).1, rfl⟩
      · have FIN : Hid (∀ t : ByteArray, t = s ++ ⟨#[b]⟩ → t.data.toList = quoL (wd.data.toList.take (k + 1)) ∧ t.size ≤ 2 * (k + 1)) := fun t ht => by
          refine ⟨?_, by rw [ht]; simp only [app_size]; omega⟩
          rw [HB.out, ht, ← HS.out]
          unfold qOf
          rw [if_neg hq]
          simp [ByteArray.data_append]
        have m1 : (b == 46) = false := by simpa using fun e => hq (Or.inl e)
        have m2 : (b == 42) = false := by simpa using fun e => hq (Or.inr (Or.inl e))
        have m3 : (b == 40) = false := by simpa using fun e => hq (Or.inr (Or.inr e))
        clear hq
        go_wp2_with fail
        go_roundg (wd.size - (k + 1))
        case measure => omega
        case rel => exact ⟨_, k + 1, rfl, by go_num, by omega, rfl, (FIN.out _ rfl).2, (FIN.out _ rfl).1, rfl⟩
    · have hkn : k = wd.size := by omega
      subst hkn
      go_wp2_with fail
      go_ret
      refine ⟨⟨s, rfl, ?_⟩, rfl⟩
      have h := HS.out
      rw [List.take_of_length_le (by simp)] at h
      exact h
theorem stands_beq (s wd : ByteArray) (a : Nat) (h : a + wd.size ≤ s.size) : ((s.extract a (a + wd.size)).toList == wd.toList) = standsL wd.data.toList (s.data.toList.drop a) := by
  have e : (s.extract a (a + wd.size)).data.toList = (s.data.toList.drop a).take wd.data.toList.length := by
    rw [ByteArray.data_extract, Array.toList_extract]
    have : wd.data.toList.length = wd.size := by simp
    rw [this]
    simp [List.extract_eq_take_drop]
  rw [Lib.toList_data, Lib.toList_data, e]
  unfold standsL
  rw [Bool.eq_iff_iff, beq_iff_eq, List.isPrefixOf_iff_prefix, List.prefix_iff_eq_take]
  exact ⟨fun h => h.symm, fun h => h.symm⟩
theorem stands_rd (s wd : ByteArray) (a : Nat) (w : World) (hs : s.size ≤ 10000000) (hw : wd.size ≤ 1000) (ha : a ≤ s.size) : Calls Tryz.prog 23 #[.string s, .int .i64 (a : Int), .string wd] w fun e w' => e = .returned (.bool (standsL wd.data.toList (s.data.toList.drop a))) ∧ w' = w := by
  by_cases h : a + wd.size ≤ s.size
  · have hd : (a : Int) + (wd.size : Int) ≤ (s.size : Int) := by omega
    have hsl := fun wx => slice_two s a wd.size h wx
    have hb := stands_beq s wd a h
    generalize standsL wd.data.toList (s.data.toList.drop a) = r at *
    go_enter Tryz.func23, Tryz.ntmps23
    go_wp2_with fail
    go_ret
    exact ⟨by first | rfl | (rw [← hb]; rfl), rfl⟩
  · have hd : ¬ ((a : Int) + (wd.size : Int) ≤ (s.size : Int)) := by omega
    have hf : standsL wd.data.toList (s.data.toList.drop a) = false := by
      unfold standsL
      rw [Bool.eq_false_iff]
      intro hx
      have := (List.isPrefixOf_iff_prefix.1 hx).length_le
      simp at this
      have e1 : wd.data.size = wd.size := rfl
      have e2 : s.data.size = s.size := rfl
      omega
    rw [hf]
    clear hf
    go_enter Tryz.func23, Tryz.ntmps23
    go_wp2_with fail
    go_ret
    exact ⟨rfl, rfl⟩

def ws3 (w0 w1 w2 : ByteArray) : List (List UInt8) := [w0.data.toList, w1.data.toList, w2.data.toList]
/-- the first word, of those from j on, that stands at a -/
def hitJ (w0 w1 w2 s : ByteArray) (j a : Nat) : Nat := hitL ((ws3 w0 w1 w2).drop j) (s.data.toList.drop a)
theorem hitJ_3 (w0 w1 w2 s : ByteArray) (a : Nat) : hitJ w0 w1 w2 s 3 a = 0 := rfl
theorem hitJ_step (w0 w1 w2 s : ByteArray) (a : Nat) : ∀ j, j < 3 → ∃ wd ∈ [w0, w1, w2], [w0, w1, w2][j]? = some wd ∧ hitJ w0 w1 w2 s j a = if standsL wd.data.toList (s.data.toList.drop a) then wd.size else hitJ w0 w1 w2 s (j + 1) a
  | 0, _ => ⟨w0, by simp, rfl, rfl⟩
  | 1, _ => ⟨w1, by simp, rfl, rfl⟩
  | 2, _ => ⟨w2, by simp, rfl, rfl⟩
  | j + 3, h => by omega
theorem hitJ_le (w0 w1 w2 s : ByteArray) (j a : Nat) (ha : a ≤ s.size) : a + hitJ w0 w1 w2 s j a ≤ s.size := by
  have h := hit_le (s.data.toList.drop a) ((ws3 w0 w1 w2).drop j)
  have e : (s.data.toList.drop a).length = s.size - a := by simp
  unfold hitJ
  omega
set_option maxHeartbeats 8000000 in
theorem kchoice_rd {w : World} {wb : Nat} (w0 w1 w2 s : ByteArray) (hB : Blk w wb #[.string w0, .string w1, .string w2] 9) (hs : s.size ≤ 10000000) (hw : ∀ x ∈ [w0, w1, w2], x.size ≤ 1000 ∧ 0 < x.size) : Calls Tryz.prog 11 #[.slice (some ⟨wb, 0, none⟩) 3 3, .string s] w fun e w' => ∃ v, e = .returned v ∧ PlAt w' w.heap.size v s (goF s.size (hitJ w0 w1 w2 s 0) 0) ∧ Kept Nil w w' := by
  obtain ⟨ie, hie, hze, hse, hbe⟩ := info_parts Tryz.infoEvent
  have HB := hid hB
  have HW := hid hw
  clear hB hw
  go_enter Tryz.func11, Tryz.ntmps11
  go_wp2_with fail
  go_loopg [5, 6] (s.size + 1) (fun kk v i wr => ∃ (a : Nat) (l : List (Nat × Nat)), i = .int .i64 a ∧ a ≤ s.size + 1 ∧ kk = s.size + 1 - a ∧ (∃ ao c, v = .slice ao l.length c) ∧ Hid (l ++ goF s.size (hitJ w0 w1 w2 s 0) a = goF s.size (hitJ w0 w1 w2 s 0) 0) ∧ l.length ≤ a ∧ Hid (PlAt wr w.heap.size v s l) ∧ Hid (Kept Nil w wr))
  case atStart => exact ⟨0, [], rfl, Nat.zero_le _, rfl, ⟨none, 0, rfl⟩, rfl, Nat.le_refl _, World.ownsRow_nil _ _ _ _, Kept.refl _ _⟩
  case round =>
    obtain ⟨a, l, rfl, ha, rfl, ⟨ao, c, rfl⟩, HL, hll, HR, K⟩ := hrel
    by_cases hlt : a < s.size
    · have hks := K.out.size
      have HJ := hid (hitJ_step w0 w1 w2 s a)
      have hrl := hitJ_le w0 w1 w2 s 0 a (by omega)
      have HBr := hid (HB.out.kept K.out (fun h => h))
      obtain ⟨N, HN⟩ : ∃ N, Hid (hitJ w0 w1 w2 s 0 a = N) := ⟨_, (rfl : _ = _)⟩
      rw [HN.out] at hrl
      go_wp2_with fail
      go_loopg [7, 8] 4 (fun kk nv i wi => ∃ j n : Nat, nv = .int .i64 n ∧ i = .int .i64 j ∧ j ≤ 3 ∧ kk = 4 - j ∧ ((n = 0 ∧ hitJ w0 w1 w2 s j a = N) ∨ (n ≠ 0 ∧ n = N)) ∧ wi = wr)
      case atStart => exact ⟨0, 0, rfl, rfl, by omega, rfl, Or.inl ⟨rfl, HN.out⟩, rfl⟩
      case round =>
        obtain ⟨j, n, rfl, rfl, hj, rfl, hcase, rfl⟩ := hrel
        by_cases hgo : j < 3 ∧ n = 0
        · obtain ⟨hj3, rfl⟩ := hgo
          have hJN : hitJ w0 w1 w2 s j a = N := by
            rcases hcase with h | h
            · exact h.2
            · exact absurd rfl h.1
          clear hcase
          obtain ⟨wd, hwd, hget, hstep⟩ := HJ.out j hj3
          rw [hJN] at hstep
          have hwl := HW.out wd hwd
          have d1 : wr.cell? ⟨wb, j, none⟩ = some (.string wd) := by
            rw [HBr.out.cell j]
            have : (#[Value.string w0, Value.string w1, Value.string w2] : Array Value)[j]? = ([w0, w1, w2][j]?).map Value.string := by
              have : j = 0 ∨ j = 1 ∨ j = 2 := by omega
              rcases this with rfl | rfl | rfl <;> rfl
            rw [this, hget]
            rfl
          have F := hid (stands_rd s wd a wr hs hwl.1 (by omega))
          have HJN := hid hJN
          have HST := hid hstep
          have hdj : (j : Int) < 3 := by omega
          clear hJN hstep hget hwd
          generalize standsL wd.data.toList (s.data.toList.drop a) = b at *
          go_wp2_with fail
          refine (F.out).mono ?_
          rintro e wr ⟨rfl, rfl⟩
          clear F
          cases b with
          | true =>
            have HST2 : Hid (N = wd.size) := HST.out
            go_wp2_with fail
            go_roundg (4 - (j + 1))
            case measure => omega
            case rel => exact ⟨j + 1, wd.size, rfl, by go_num, by omega, rfl, Or.inr ⟨by omega, HST2.out.symm⟩, rfl⟩
          | false =>
            have HST2 : Hid (N = hitJ w0 w1 w2 s (j + 1) a) := HST.out
            go_wp2_with fail
            go_roundg (4 - (j + 1))
            case measure => omega
            case rel => exact ⟨j + 1, 0, rfl, by go_num, by omega, rfl, Or.inl ⟨rfl, HST2.out.symm⟩, rfl⟩
        · have hnN : n = N := by
            rcases hcase with h | h
            · have : j = 3 := by omega
              subst this
              have h2 := h.2
              rw [hitJ_3] at h2
              omega
            · exact h.2
          subst hnN
          clear hcase
          by_cases hz : n = 0
          · subst hz
            have hj3 : j = 3 := by omega
            subst hj3
            have HS : Hid (goF s.size (hitJ w0 w1 w2 s 0) a = goF s.size (hitJ w0 w1 w2 s 0) (a + 1)) := goF_no hlt HN.out
            go_wp2_with fail
            go_roundg (s.size + 1 - (a + 1))
            case measure => omega
            case rel => exact ⟨a + 1, l, by go_num, by omega, rfl, ⟨ao, c, rfl⟩, (by show _ = _; rw [← HL.out, HS.out]), by omega, HR.out, K.out⟩
          · have HS : Hid (goF s.size (hitJ w0 w1 w2 s 0) a = [(a, a + n)] ++ goF s.size (hitJ w0 w1 w2 s 0) (a + n)) := by
              have h := goF_yes (h := hitJ w0 w1 w2 s 0) hlt (by rw [HN.out]; exact hz)
              rw [HN.out] at h
              exact h
            have hA3 : ((n : Int) == 0) = false := by simp; omega
            have hsl := fun wx => slice_two s a n hrl wx
            clear hgo
            by_cases hj3 : j < 3
            · have hdj : (j : Int) < 3 := by omega
              go_wp2_with (at_builtin; refine wpList_append_own_at _ rfl _ _ 26 rfl w.heap.size 45 ie _ 4 56 Tryz.underlying26 hie hze hse hbe rfl (by decide) _ _ _ rfl (HR.out.alloc _) ⟨wr.heap.size, 0, none⟩ 1 1 (plC s (a, a + n)) rfl rfl ?c1 ?c2 ?c3 ?c4 ?c5 ?_)
              case c1 =>
                intro q u hq
                have h := (Blk.new wr #[.int .i64 (a : Int), .int .i64 ((a : Int) + (n : Int)), .slice none 0 0, .string (s.extract a (a + n))] 45).cell q
                have e : (Addr.mk wr.heap.size 0 none).add q = ⟨wr.heap.size, q, none⟩ := add_at0 wr.heap.size q
                first | (simpa [plC] using hq) | (rw [e, h]; simpa [plC] using hq)
              case c2 =>
                intro u hu
                unfold plC at hu
                simp at hu
                rcases hu with rfl | rfl | rfl | rfl <;> rfl
              case c3 => unfold maxLen; omega
              case c4 => first | omega | (rw [size_alloc1]; omega)
              case c5 => first | omega | (rw [size_alloc1]; omega)
              intro v' w10 hown' hgrow hnil hloc
              obtain ⟨ao', c', rfl⟩ := ownsRow_slice hown'
              have FIN : Hid (PlAt w10 w.heap.size (.slice ao' (l.length + 1) c') s (l ++ [(a, a + n)]) ∧ Kept Nil w w10) := by
                have k7 : Kept (fun j => (Value.slice ao l.length c).ownBlock = some j) wr w10 := (((Kept.refl Nil wr).alloc _).mono (fun i hx => hx.elim)).grown hgrow (fun j hj => Or.inl hj)
                refine ⟨by unfold PlAt; rw [List.length_append, plF_snoc]; exact hown', ?_⟩
                exact K.out.later k7 (fun i hi => (ownsRow_block HR.out hi).1)
              clear hown' hgrow hnil hloc
              go_wp2_with fail
              go_roundg (s.size + 1 - (a + n))
              case measure => omega
              case rel => exact ⟨a + n, l ++ [(a, a + n)], by go_num, by omega, rfl, ⟨ao', c', by rw [List.length_append]; rfl⟩, (by show _ = _; rw [← HL.out, HS.out, List.append_assoc]), by simp; omega, FIN.out.1, FIN.out.2⟩
            · have hdj : ¬ ((j : Int) < 3) := by omega
              go_wp2_with (at_builtin; refine wpList_append_own_at _ rfl _ _ 26 rfl w.heap.size 45 ie _ 4 56 Tryz.underlying26 hie hze hse hbe rfl (by decide) _ _ _ rfl (HR.out.alloc _) ⟨wr.heap.size, 0, none⟩ 1 1 (plC s (a, a + n)) rfl rfl ?c1 ?c2 ?c3 ?c4 ?c5 ?_)
              case c1 =>
                intro q u hq
                have h := (Blk.new wr #[.int .i64 (a : Int), .int .i64 ((a : Int) + (n : Int)), .slice none 0 0, .string (s.extract a (a + n))] 45).cell q
                have e : (Addr.mk wr.heap.size 0 none).add q = ⟨wr.heap.size, q, none⟩ := add_at0 wr.heap.size q
                first | (simpa [plC] using hq) | (rw [e, h]; simpa [plC] using hq)
              case c2 =>
                intro u hu
                unfold plC at hu
                simp at hu
                rcases hu with rfl | rfl | rfl | rfl <;> rfl
              case c3 => unfold maxLen; omega
              case c4 => first | omega | (rw [size_alloc1]; omega)
              case c5 => first | omega | (rw [size_alloc1]; omega)
              intro v' w10 hown' hgrow hnil hloc
              obtain ⟨ao', c', rfl⟩ := ownsRow_slice hown'
              have FIN : Hid (PlAt w10 w.heap.size (.slice ao' (l.length + 1) c') s (l ++ [(a, a + n)]) ∧ Kept Nil w w10) := by
                have k7 : Kept (fun j => (Value.slice ao l.length c).ownBlock = some j) wr w10 := (((Kept.refl Nil wr).alloc _).mono (fun i hx => hx.elim)).grown hgrow (fun j hj => Or.inl hj)
                refine ⟨by unfold PlAt; rw [List.length_append, plF_snoc]; exact hown', ?_⟩
                exact K.out.later k7 (fun i hi => (ownsRow_block HR.out hi).1)
              clear hown' hgrow hnil hloc
              go_wp2_with fail
              go_roundg (s.size + 1 - (a + n))
              case measure => omega
              case rel => exact ⟨a + n, l ++ [(a, a + n)], by go_num, by omega, rfl, ⟨ao', c', by rw [List.length_append]; rfl⟩, (by show _ = _; rw [← HL.out, HS.out, List.append_assoc]), by simp; omega, FIN.out.1, FIN.out.2⟩
    · have hd : ¬ ((a : Int) < (s.size : Int)) := by omega
      go_wp2_with fail
      go_ret
      refine ⟨_, rfl, ?_, K.out⟩
      have := HL.out
      rw [goF_end (by omega), List.append_nil] at this
      rw [← this]
      exact HR.out
end Go.Proofs.YtnbfddjaonlmaaaGreatDoor
