/- The classes of the program's engine of marks: Cuts, Words, classesOf come back. classesOf comes back. The engine of marks at its beginning: sample, key, keep, Begin come back. -/
import Derived.Test.YtfollffpibmgcaaGreatDoorP26
import Derived.Test.YtfollffpibmgcaaGreatDoorP28
import Derived.Laws.AppendOwnNone
import Derived.Laws.BytesArg
set_option linter.unusedVariables false
set_option maxRecDepth 100000
namespace Go.Proofs.YtfollffpibmgcaaGreatDoor
open Go.RowKit Go.Maps
def runeL (l : List Int) : List Value := l.map fun v => .int .i32 v
theorem runeL_append (a b : List Int) : runeL (a ++ b) = runeL a ++ runeL b := by simp [runeL]
theorem runeL_one (l : List Int) : ∀ u ∈ runeL l, u.oneCell' = true := by
 intro u hu
 simp [runeL] at hu
 obtain ⟨x, _, rfl⟩ := hu
 rfl
set_option maxHeartbeats 2000000 in
theorem cuts_rd {w : World} {bs c : Nat} {ao : Option Addr} {S : Spans} (hao : S ≠ [] → ao = some ⟨bs, 0, none⟩) (hc : Cells32 w bs S) (hr : RuneSp S) (hl : S.length ≤ 6000) (hb : S ≠ [] → bs < w.heap.size) :
  Calls Tryz.prog 88 #[.slice ao S.length c] w fun e w' => ∃ v : Value, e = .returned v ∧ ∃ rs : List Int, w'.ownsRow w.heap.size 21 1 v rs.length (runeL rs) ∧ rs.length = 2 * S.length ∧ Kept Nil w w' := by
 obtain ⟨i0, hi0, hz0, hz1, hz2⟩ := info_parts Tryz.infoRune
 have HC := hid hc
 have HB := hid hb
 have HAO := hid hao
 clear hc hb hao
 go_enter Tryz.func88, Tryz.ntmps88
 go_wp2_with fail
 go_loopg [3, 8] S.length (fun kk v3 i wr => ∃ (k : Nat) (rs : List Int), i = .int .i64 (k : Int) ∧ k ≤ S.length ∧ kk = S.length - k ∧ Hid (rs.length = 2 * k) ∧ Hid (wr.ownsRow w.heap.size 21 1 v3 rs.length (runeL rs)) ∧ Hid (Kept Nil w wr))
 case atStart => exact ⟨0, [], rfl, Nat.zero_le _, rfl, hid rfl, World.ownsRow_nil _ _ _ _, Kept.refl _ _⟩
 case round =>
  obtain ⟨k, rs, rfl, hk, hkk, hrs, HR, HK⟩ := hrel
  by_cases hlt : k < S.length
  ·have hne : S ≠ [] := by intro e; subst e; simp at hlt
   have e := HAO.out hne
   subst e
   have hbs := HB.out hne
   have ks := HK.out.size
   have d0 := (HC.out.kept HK.out hbs (fun hx => hx) k hlt).1
   have d1 := (HC.out.kept HK.out hbs (fun hx => hx) k hlt).2
   have hrk := hr _ (List.getElem_mem hlt)
   have hit : (k : Int) < (S.length : Int) := by omega
   have hit2 : ¬ ((S.length : Int) ≤ (k : Int)) := by omega
   obtain ⟨ao3, c3, rfl⟩ := ownsRow_slice HR.out
   have HR2 : Hid (∀ W, Kept Nil wr W → W.ownsRow w.heap.size 21 1 (.slice ao3 rs.length c3) rs.length (runeL rs)) := fun W kW => ownsRow_kept HR.out kW (fun i _ hx => hx)
   have HO : Hid (∀ i, (Value.slice ao3 rs.length c3).ownBlock = some i → w.heap.size ≤ i) := fun i hi => (ownsRow_block HR.out hi).1
   generalize hp : S[k] = p at *
   obtain ⟨p1, p2⟩ := p
   simp only at d0 d1 hrk
   clear HR hp
   go_wp2_with (at_builtin; refine wpList_append_own_at _ rfl _ _ 85 rfl w.heap.size 21 i0 _ 1 4 Tryz.underlying85 hi0 hz0 hz1 hz2 rfl (by decide) _ _ _ rfl (HR2.out _ (((Kept.refl _ _).alloc _).alloc _)) ⟨wr.heap.size + 1, 0, none⟩ 2 2 (runeL [p1, p2 + 1]) rfl rfl ?c1 ?c2 ?c3 ?c4 ?c5 ?_)
   case c1 => exact fun j u h => h
   case c2 => exact runeL_one _
   case c3 => have := hrs.out; unfold maxLen; omega
   case c4 => have := hrs.out; omega
   case c5 => first | omega | (simp; omega)
   intro v' w7 hown' hgrow hnil hloc
   obtain ⟨ao', c', rfl⟩ := ownsRow_slice hown'
   have FIN : Hid (w7.ownsRow w.heap.size 21 1 (.slice ao' (rs.length + 2) c') (rs ++ [p1, p2 + 1]).length (runeL (rs ++ [p1, p2 + 1]))) := by
    show World.ownsRow _ _ _ _ _ _ _
    rw [runeL_append, List.length_append]
    exact hown'
   have KF : Hid (Kept Nil w w7) := ((HK.out.alloc _).alloc _).grown hgrow (fun j hj => Or.inr (HO.out j hj))
   clear hown' hgrow hnil hloc HR2 HO HK
   go_wp2_with fail
   go_roundg (S.length - (k + 1))
   case measure => omega
   case rel => exact ⟨k + 1, _, by simp, by omega, rfl, by have := hrs.out; show _ = _; simp; omega, FIN, KF⟩
  ·have hk' : k = S.length := by omega
   subst hk'
   have hit : ¬ ((S.length : Int) < (S.length : Int)) := by omega
   go_wp2_with fail
   go_ret
   exact ⟨_, rfl, rs, HR.out, by have := hrs.out; omega, HK.out⟩
theorem wpList_append_row {P : Program} {w : World} {ops : Array Oper} {rest : List Oper} {o : Oper} {a : Act} {Q : Exit → Act → World → Prop} (hgd : o.guard = none) (s x : Operand) (t : TypeId)
  (ho : o.op = .call { callee := .builtin .append, args := #[s, x], argTypes := #[t, t] })
  (base base' : Nat) (e : TypeId) (i : TypeInfo) (z : Value) (bytes : Nat) (ht : P.underlying t = some (.slice e)) (hi : P.info? e = some i) (hz : i.zero = some z)
  (hsize : i.size = 1) (hby : i.bytes = bytes) (hzs : z.cells.size = 1)
  (v : Value) (n : Nat) (xs : List Value) (hs : a.eval s = v) (hown : w.ownsRow base e 1 v n xs)
  (y : Value) (m : Nat) (news : List Value) (hx : a.eval x = y) (hy : w.ownsRow base' e 1 y m news) (h1 : ∀ u ∈ news, u.oneCell' = true)
  (h63 : n + m ≤ maxLen) (hbytes : (n + m) * bytes ≤ 140737488355328) (hbase : base ≤ w.heap.size)
  (h : ∀ v' w', w'.ownsRow base e 1 v' (n + m) (xs ++ news) → w.grownBy w' v.ownBlock → (v'.ownBlock = v.ownBlock ∨ v'.ownBlock = some w.heap.size) → wpList P ops Q rest (a.put o.dst v') w') :
  wpList P ops Q (o :: rest) a w := by
 have hy0 := hy
 obtain ⟨hyl, hy'⟩ := hy
 rcases hy' with ⟨hv, hm⟩ | ⟨g, cap, cur, hv, a1, a2, a3, a4, a5, a6⟩
 ·subst hm
  have : news = [] := List.length_eq_zero_iff.1 (by omega)
  subst this
  refine wpList_append_own_none hgd s x t ho base e i 1 ht hi v n xs hs hown (hx.trans hv) (h v w (by simpa using hown) ⟨rfl, rfl, rfl, Nat.le_refl _, fun _ _ _ => rfl⟩ (Or.inl rfl))
 ·refine wpList_append_own_at w hgd s x t ho base e i z 1 bytes ht hi hz hsize hby hzs (by decide) v n xs hs hown ⟨g, 0, none⟩ m cap news (hx.trans hv) hyl (fun j u hj => ?_) h1 h63 hbytes hbase (fun v' w' b1 b2 b3 b4 => h v' w' b1 b2 b4)
  subst hv
  exact hy0.cells (g := g) rfl j u hj
theorem words_rd (w : World) : Calls Tryz.prog 89 #[] w fun e w' => ∃ v, e = .returned v ∧ ∃ S : Spans, w'.ownsRow w.heap.size 201 2 v S.length (flat32 S) ∧ RuneSp S ∧ S.length ≤ 4 ∧ Kept Nil w w' := by
 go_enter Tryz.func89, Tryz.ntmps89
 go_wp2_with fail
 refine (setOf_rd 119 w).mono ?_
 rintro e w1 ⟨v, rfl, hv, k1⟩
 have hr := setSpans_rune 119
 have hne : setSpans 119 ≠ [] := by intro e; rw [e] at hr; simp at hr
 obtain ⟨g, cap, rfl, g1, g2, g3, g4⟩ := cells_of_own hv hne
 have F := hid (newSet_rd (cap := cap) g3 hr.1 (by omega) hne g2)
 have hl := hr.2.2
 have HR := hid hr.1
 have K1 := hid k1
 clear hv g3 hr hne
 generalize setSpans 119 = L at *
 go_wp2_with fail
 refine (F.out).mono ?_
 rintro e w2 ⟨l', v, hp, hpw, rfl, hown, k2⟩
 have hr' : RuneSp l' := fun s hs => HR.out s (hp.mem_iff.1 hs)
 have hm := mergeAll_rune_len l' hr'
 have hpl := hp.length_eq
 have FIN := hid (And.intro hown (And.intro hm.1 (K1.out.trans k2)))
 have s1 := K1.out.size
 clear hown k2 hp hpw
 go_wp2_with fail
 go_ret
 exact ⟨_, rfl, mergeAll l', own32_base FIN.out.1 (by omega), FIN.out.2.1, by omega, FIN.out.2.2⟩
theorem cuts_own {w : World} {base : Nat} {v : Value} {S : Spans} (h : w.ownsRow base 201 2 v S.length (flat32 S)) (hr : RuneSp S) (hl : S.length ≤ 6000) :
  Calls Tryz.prog 88 #[v] w fun e w' => ∃ v : Value, e = .returned v ∧ ∃ rs : List Int, w'.ownsRow w.heap.size 21 1 v rs.length (runeL rs) ∧ rs.length = 2 * S.length ∧ Kept Nil w w' := by
 by_cases hne : S = []
 ·obtain ⟨ao, c, rfl⟩ := ownsRow_slice h
  subst hne
  exact cuts_rd (bs := 0) (fun h => absurd rfl h) (Cells32.nil _ _) hr hl (fun h => absurd rfl h)
 ·obtain ⟨g, cap, rfl, g1, g2, g3, g4⟩ := cells_of_own h hne
  exact cuts_rd (bs := g) (fun _ => rfl) g3 hr hl (fun _ => g2)
def mcV (v : Value) (u x : Int) : Array Value := #[v, .int .i64 u, .int .i64 x]
theorem McAt.array {w : World} {lo hi base : Nat} {v : Value} {ms : List MS} (h : McAt w lo hi base v ms) (hne : 0 < ms.length) : ∃ g c, v = .slice (some ⟨g, 0, none⟩) ms.length c ∧ g < w.heap.size ∧ ms.length ≤ c ∧
  ∀ i, (hi' : i < ms.length) → ∃ s : Sv, SvAt w lo hi s ms[i] ∧ ∀ j, j < 6 → w.cell? ⟨g, i * 6 + j, none⟩ = s.cells[j]? := by
 obtain ⟨vs, h1, h2, h3⟩ := h
 obtain ⟨hx, h1'⟩ := h1
 rcases h1' with ⟨_, h0⟩ | ⟨g, cap, cur, rfl, a1, a2, a3, a4, a5, a6⟩
 ·omega
 ·refine ⟨g, cap, rfl, (Array.getElem?_eq_some_iff.1 a2).1, a3, fun i hi' => ⟨vs[i], h3 i (by omega) hi', fun j hj => ?_⟩⟩
  have hf := flatS_get vs i (by omega) j hj
  rw [← hf, ← a6, List.getElem?_take_of_lt (by omega)]
  simp only [World.cell?, a2]
  simp
theorem rowOk_of_own {w : World} {base : Nat} {v : Value} {rs : List Int} (h : w.ownsRow base 21 1 v rs.length (runeL rs)) : (v = .slice none 0 0 ∧ rs.length = 0) ∨ ∃ g cap, v = .slice (some ⟨g, 0, none⟩) rs.length cap ∧ base ≤ g ∧ RowOk w g 0 rs.length cap ∧ rs.length ≤ cap ∧ cap ≤ maxLen := by
 obtain ⟨hx, h1⟩ := h
 rcases h1 with ⟨hv, h0⟩ | ⟨g, cap, cur, rfl, a1, a2, a3, a4, a5, a6⟩
 ·exact Or.inl ⟨hv, h0⟩
 ·refine Or.inr ⟨g, cap, rfl, a1, ⟨cur, a2, by omega, by omega, fun t ht => ⟨rs[t], ?_⟩⟩, a3, a4⟩
  have : (cur.toList.take (rs.length * 1))[t]? = some (.int .i32 rs[t]) := by rw [a6]; simp [runeL, ht]
  rw [List.getElem?_take_of_lt (by omega)] at this
  simpa using this
def RowQ (w : World) (v : Value) : Prop := v = .slice none 0 0 ∨ ∃ g n cap, v = .slice (some ⟨g, 0, none⟩) n cap ∧ RowOk w g 0 n cap ∧ n < 1000000000 ∧ n ≤ cap ∧ cap ≤ maxLen
theorem sortRow_any {w : World} {base : Nat} {v : Value} {rs : List Int} (h : w.ownsRow base 21 1 v rs.length (runeL rs)) (hn : rs.length < 1000000000) :
  Calls Tryz.prog 90 #[v] w fun e w' => e = .returned (.tuple #[]) ∧ Kept (fun i => v.ownBlock = some i) w w' ∧ RowQ w' v := by
 rcases rowOk_of_own h with ⟨hv, h0⟩ | ⟨g3, cap, hv, hg3, hrow, hcp, hcm⟩
 ·subst hv
  refine (sortNil_any w).mono ?_
  rintro e w' ⟨rfl, rfl⟩
  exact ⟨rfl, Kept.refl _ _, Or.inl rfl⟩
 ·subst hv
  refine (sort_any hrow hn).mono ?_
  rintro e w' ⟨rfl, P⟩
  exact ⟨rfl, P.kept.mono (fun i hi => by subst hi; rfl), Or.inr ⟨g3, _, cap, rfl, P.row, hn, hcp, hcm⟩⟩
theorem compactRow_any {w : World} {v : Value} (h : RowQ w v) :
  Calls Tryz.prog 91 #[v] w fun e w' => ∃ v', e = .returned v' ∧ (∃ ao k c, v' = .slice ao k c) ∧ Kept (fun i => v.ownBlock = some i) w w' := by
 rcases h with hv | ⟨g, n, cap, hv, h1, h2, h3, h4⟩
 ·subst hv
  refine (compactNil_any w).mono ?_
  rintro e w' ⟨rfl, rfl⟩
  exact ⟨_, rfl, ⟨_, _, _, rfl⟩, Kept.refl _ _⟩
 ·subst hv
  refine (compact_any h1 h2 ⟨h3, h4⟩).mono ?_
  rintro e w' ⟨ao, k, c, rfl, P⟩
  exact ⟨_, rfl, ⟨_, _, _, rfl⟩, P.mono (fun i hi => by subst hi; rfl)⟩
set_option maxHeartbeats 4000000 in
theorem classesOf_rd {w : World} {lo hi base : Nat} {v : Value} {u x : Int} {ms : List MS} (h : McAt w lo hi base v ms) (hlh : hi ≤ w.heap.size) (hne : 0 < ms.length) (hms : ms.length ≤ 4001) :
  Calls Tryz.prog 59 #[.agg (mcV v u x)] w fun e w' => ∃ v', e = .returned v' ∧ (∃ ao k c, v' = .slice ao k c) ∧ Kept Nil w w' := by
 obtain ⟨i0, hi0, hz0, hz1, hz2⟩ := info_parts Tryz.infoRune
 obtain ⟨g, c, rfl, hg, hc, hst⟩ := h.array hne
 have HST := hid hst
 have B0 := Blk.new w #[.slice (some ⟨g, 0, none⟩) ms.length c, .int .i64 u, .int .i64 x] 65
 have HB := hid B0
 have K0 : Hid (Kept Nil w (w.alloc (.cells #[.slice (some ⟨g, 0, none⟩) ms.length c, .int .i64 u, .int .i64 x] 65))) := (Kept.refl Nil w).alloc _
 clear hst B0 h
 simp only [mcV]
 go_enter Tryz.func59, Tryz.ntmps59
 go_wp2_with fail
 go_loopg [3, 9] ms.length (fun kk v3 i wr => ∃ (k : Nat) (rs : List Int), i = .int .i64 (k : Int) ∧ k ≤ ms.length ∧ kk = ms.length - k ∧ Hid (rs.length ≤ 12000 * k) ∧ Hid (wr.ownsRow (w.heap.size + 1) 21 1 v3 rs.length (runeL rs)) ∧ Hid (Kept Nil (w.alloc (.cells #[.slice (some ⟨g, 0, none⟩) ms.length c, .int .i64 u, .int .i64 x] 65)) wr))
 case atStart => exact ⟨0, [], rfl, Nat.zero_le _, rfl, hid (by simp), World.ownsRow_nil _ _ _ _, Kept.refl _ _⟩
 case round =>
  obtain ⟨k, rs, rfl, hk, hkk, HL, HR, HK⟩ := hrel
  have KW := hid (K0.out.trans HK.out)
  have ksz := HK.out.size
  simp only [size_alloc0] at ksz
  have b0 : wr.cell? ⟨w.heap.size, 0, none⟩ = some (.slice (some ⟨g, 0, none⟩) ms.length c) := (HB.out.kept HK.out (fun hx => hx)).cell 0
  obtain ⟨ao3, c3, rfl⟩ := ownsRow_slice HR.out
  by_cases hlt : k < ms.length
  ·have hit : (k : Int) < (ms.length : Int) := by omega
   have hit2 : ¬ ((ms.length : Int) ≤ (k : Int)) := by omega
   obtain ⟨q, hq, hqc⟩ := HST.out k hlt
   have hq' := hq.kept KW.out (fun _ _ _ hx => hx) hlh
   have d0 : wr.cell? ⟨g, k * 6, none⟩ = some (.int .i64 q.k) := (KW.out.cell (p := ⟨g, k * 6, none⟩) hg (fun hx => hx)).trans (hqc 0 (by omega))
   have d1 : wr.cell? ⟨g, k * 6 + 1, none⟩ = some (.slice q.sa q.sn q.sc) := (KW.out.cell (p := ⟨g, k * 6 + 1, none⟩) hg (fun hx => hx)).trans (hqc 1 (by omega))
   have HO : Hid (∀ i, (Value.slice ao3 rs.length c3).ownBlock = some i → w.heap.size + 1 ≤ i) := fun i hi => (ownsRow_block HR.out hi).1
   have HR2 : Hid (∀ W, Kept Nil wr W → W.ownsRow (w.heap.size + 1) 21 1 (.slice ao3 rs.length c3) rs.length (runeL rs)) := fun W kW => ownsRow_kept HR.out kW (fun i _ hx => hx)
   have STEP : Hid (∀ (W w7 : World) (v' : Value) (rs2 : List Int) (m : Nat), Kept Nil wr W → rs2.length = m → m ≤ 12000 → w7.ownsRow (w.heap.size + 1) 21 1 v' (rs.length + m) (runeL rs ++ runeL rs2) → W.grownBy w7 (Value.slice ao3 rs.length c3).ownBlock →
     ∃ rs' : List Int, rs'.length ≤ 12000 * (k + 1) ∧ w7.ownsRow (w.heap.size + 1) 21 1 v' rs'.length (runeL rs') ∧ Kept Nil (w.alloc (.cells #[.slice (some ⟨g, 0, none⟩) ms.length c, .int .i64 u, .int .i64 x] 65)) w7) := by
    intro W w7 v' rs2 m kW hm hm2 ho hg'
    refine ⟨rs ++ rs2, by have := HL.out; simp; omega, by rw [runeL_append, List.length_append, hm]; exact ho, ((HK.out.trans kW)).grown hg' (fun j hj => Or.inr (by have := HO.out j hj; simp; omega))⟩
   by_cases k1 : q.k = 1
   ·have hq1 : (q.k == 1) = true := by simp [k1]
    obtain ⟨S, bs, s1, s2, s3, s4, s5, s6⟩ := hq'.set (by rw [← hq'.k]; exact k1)
    rw [s1] at d1
    have F := hid (cuts_rd (c := q.sc) (ao := q.sa) (bs := bs) (fun hne => (s2 hne).1) s3 s5 s6 (fun hne => by have := (s2 hne).2; omega))
    clear hq hq' hqc k1 s1 s2 s3 s4 s5 HR
    go_wp2_with fail
    refine (F.out).mono ?_
    rintro e w4 ⟨v4, rfl, rs2, o4, l4, k4⟩
    obtain ⟨ao4, c4, rfl⟩ := ownsRow_slice o4
    have O4 := hid o4
    have L4 : Hid (rs2.length ≤ 12000) := hid (by omega)
    have KW4 := hid k4
    clear F o4 l4 k4
    go_wp2_with (at_builtin; refine wpList_append_row rfl _ _ 85 rfl (w.heap.size + 1) wr.heap.size 21 i0 _ 4 Tryz.underlying85 hi0 hz0 hz1 hz2 rfl _ _ _ rfl (HR2.out _ KW4.out) _ rs2.length _ rfl O4.out (runeL_one _) ?c1 ?c2 ?c3 ?_)
    case c1 => have := HL.out; have := L4.out; unfold maxLen; omega
    case c2 => have := HL.out; have := L4.out; omega
    case c3 => have := KW4.out.size; omega
    intro v' w7 ho hg' hl'
    obtain ⟨ao', c', rfl⟩ := ownsRow_slice ho
    obtain ⟨rs', r1, r2, r3⟩ := STEP.out _ _ _ rs2 rs2.length KW4.out rfl (by have := L4.out; omega) ho hg'
    have r2' := r2
    obtain ⟨ao5, c5, e5⟩ := ownsRow_slice r2
    have R1 := hid r1
    have R2 := hid r2
    have R3 := hid r3
    clear ho hg' hl' r1 r2 r3 STEP HR2 HO O4 KW4 L4 r2' e5
    go_wp2_with fail
    go_roundg (ms.length - (k + 1))
    case measure => omega
    case rel => exact ⟨k + 1, rs', by simp, by omega, rfl, R1, R2, R3⟩
   ·have hq1 : (q.k == 1) = false := by simp [k1]
    by_cases k2 : q.k = 2
    ·have hq2 : (q.k == 2) = true := by simp [k2]
     clear hq hq' hqc k1 k2 HR
     go_wp2_with fail
     refine (words_rd wr).mono ?_
     rintro e w3 ⟨v3, rfl, S, o3, r3, l3, k3⟩
     have F := hid (cuts_own o3 r3 (by omega))
     have K3 := hid k3
     obtain ⟨ao3', c3', rfl⟩ := ownsRow_slice o3
     clear o3 r3 k3
     go_wp2_with fail
     refine (F.out).mono ?_
     rintro e w4 ⟨v4, rfl, rs2, o4, l4, k4⟩
     obtain ⟨ao4, c4, rfl⟩ := ownsRow_slice o4
     have O4 := hid o4
     have L4 : Hid (rs2.length ≤ 12000) := hid (by omega)
     have KW4 := hid (K3.out.trans k4)
     clear F o4 l4 k4 K3
     go_wp2_with (at_builtin; refine wpList_append_row rfl _ _ 85 rfl (w.heap.size + 1) w3.heap.size 21 i0 _ 4 Tryz.underlying85 hi0 hz0 hz1 hz2 rfl _ _ _ rfl (HR2.out _ KW4.out) _ rs2.length _ rfl O4.out (runeL_one _) ?c1 ?c2 ?c3 ?_)
     case c1 => have := HL.out; have := L4.out; unfold maxLen; omega
     case c2 => have := HL.out; have := L4.out; omega
     case c3 => have := KW4.out.size; omega
     intro v' w7 ho hg' hl'
     obtain ⟨ao', c', rfl⟩ := ownsRow_slice ho
     obtain ⟨rs', r1, r2, r3⟩ := STEP.out _ _ _ rs2 rs2.length KW4.out rfl (by have := L4.out; omega) ho hg'
     have r2' := r2
     obtain ⟨ao5, c5, e5⟩ := ownsRow_slice r2
     have R1 := hid r1
     have R2 := hid r2
     have R3 := hid r3
     clear ho hg' hl' r1 r2 r3 STEP HR2 HO O4 KW4 L4 r2' e5
     go_wp2_with fail
     go_roundg (ms.length - (k + 1))
     case measure => omega
     case rel => exact ⟨k + 1, rs', by simp, by omega, rfl, R1, R2, R3⟩
    ·have hq2 : (q.k == 2) = false := by simp [k2]
     have R1 : Hid (rs.length ≤ 12000 * (k + 1)) := hid (by have := HL.out; omega)
     clear hq hq' hqc k1 k2 STEP HR2 HO
     go_wp2_with fail
     go_roundg (ms.length - (k + 1))
     case measure => omega
     case rel => exact ⟨k + 1, rs, by simp, by omega, rfl, R1, HR, HK⟩
  ·have hk' : k = ms.length := by omega
   subst hk'
   have hit : ¬ ((ms.length : Int) < (ms.length : Int)) := by omega
   have F := hid (sortRow_any HR.out (by have := HL.out; omega))
   have HO : Hid (∀ i, (Value.slice ao3 rs.length c3).ownBlock = some i → w.heap.size + 1 ≤ i) := fun i hi => (ownsRow_block HR.out hi).1
   clear HR
   go_wp2_with fail
   refine (F.out).mono ?_
   rintro e w5 ⟨rfl, K5, Q5⟩
   have F2 := hid (compactRow_any Q5)
   have HK5 := hid K5
   clear F Q5 K5
   go_wp2_with fail
   refine (F2.out).mono ?_
   rintro e w6 ⟨v6, rfl, ⟨ao6, k6, c6, rfl⟩, P6⟩
   have HK6 := hid P6
   clear F2 P6
   go_wp2_with fail
   go_ret
   exact ⟨_, rfl, ⟨_, _, _, rfl⟩, (KW.out.nil_of HK5.out (fun i hi' => by have := HO.out i hi'; omega)).nil_of HK6.out (fun i hi' => by have := HO.out i hi'; omega)⟩
def anyElem (v : Value) : Option (DataW Unit × List MemPlace) := some (.lit (.bool true), [])
theorem sample_none (w : World) : Calls Tryz.prog 122 #[.int .i32 (-1)] w fun e w' => e = .returned (.int .i32 (-1)) ∧ w' = w := by
 go_enter Tryz.func122, Tryz.ntmps122
 go_wp2_with fail
 go_ret
 exact ⟨rfl, rfl⟩
def enC (st : Int) (fo : Value) (ed : Bool) (cl : Value) (mo : Int) (mp : Nat) (nw mk : Value) : Array Value := #[.int .i64 st, fo, .bool ed, cl, .int .i64 mo, .map (some mp), nw, mk]
theorem ksample_none {w : World} {b mp : Nat} {st mo : Int} {fo cl nw mk : Value} {ed : Bool} (h : Blk w b (enC st fo ed cl mo mp nw mk) 141) :
  Calls Tryz.prog 93 #[.pointer (some ⟨b, 0, none⟩), .int .i32 (-1)] w fun e w' => e = .returned (.int .i32 (-1)) ∧ w' = w := by
 have c2 : w.cell? ⟨b, 2, none⟩ = some (.bool ed) := h.cell 2
 clear h
 cases ed with
 | false =>
  go_enter Tryz.func93, Tryz.ntmps93
  go_wp2_with fail
  go_ret
  exact ⟨rfl, rfl⟩
 | true =>
  go_enter Tryz.func93, Tryz.ntmps93
  go_wp2_with fail
  refine (sample_none w).mono ?_
  rintro e w' ⟨rfl, rfl⟩
  go_wp2_with fail
  go_ret
  exact ⟨rfl, rfl⟩
set_option maxHeartbeats 1000000 in
theorem key_none {w : World} {b : Nat} (h : Blk w b #[.slice none 0 0, .int .i32 (-1), .bool false, .slice none 0 0] 174) :
  Calls Tryz.prog 121 #[.pointer (some ⟨b, 0, none⟩)] w fun e w' => e = .returned (.string (strOfNums [255, 0])) ∧ Kept Nil w w' := by
 have c0 : w.cell? ⟨b, 0, none⟩ = some (.slice none 0 0) := h.cell 0
 have c1 : w.cell? ⟨b, 1, none⟩ = some (.int .i32 (-1)) := h.cell 1
 have c2 : w.cell? ⟨b, 2, none⟩ = some (.bool false) := h.cell 2
 have hbl := h.lt
 have hc := run_convert_bytes_arg (P := Tryz.prog) (w := w.alloc (.cells #[.int .u8 255, .int .u8 0] 5)) 74 5 Tryz.underlying74 Tryz.underlying5 w.heap.size 0 2 2 [255, 0] rfl (fun i hi => by
  have := (Blk.new w #[.int .u8 255, .int .u8 0] 5).cell i
  rw [Nat.zero_add, this]
  match i, hi with
  | 0, _ => rfl
  | 1, _ => rfl) 9 Tryz.underlying9
 have K : Hid (Kept Nil w (w.alloc (.cells #[.int .u8 255, .int .u8 0] 5))) := (Kept.refl Nil w).alloc _
 clear h
 generalize strOfNums [255, 0] = s at *
 go_enter Tryz.func121, Tryz.ntmps121
 go_wp2_with fail
 go_loopg [3, 23] 0 (fun kk v3 i wr => v3 = .slice (some ⟨w.heap.size, 0, none⟩) 2 2 ∧ i = .int .i64 0 ∧ wr = w.alloc (.cells #[.int .u8 255, .int .u8 0] 5))
 case atStart => exact ⟨rfl, rfl, rfl⟩
 case round =>
  obtain ⟨rfl, rfl, rfl⟩ := hrel
  go_wp2_with fail
  go_ret
  exact ⟨rfl, K.out⟩
theorem Kept.mapped {S : Nat → Prop} {a w w' : World} {b : Nat} (h : Kept S a w) (hg : w.grownBy w' (some b)) (hb : S b ∨ a.heap.size ≤ b) : Kept S a w' := h.grown hg (fun k hk => by cases hk; exact hb)
set_option maxHeartbeats 2000000 in
theorem keep_none {w : World} {b mp : Nat} {st mo : Int} {fo cl nw mk : Value} {ed : Bool} (h : Blk w b (enC st fo ed cl mo mp nw mk) 141) (hM : w.ownsMap Tryz.prog 9 anyElem mp 0 (.map [])) (hmb : mp ≠ b) (hml : mp < w.heap.size) (hmo : 2 ≤ mo) :
  Calls Tryz.prog 92 #[.pointer (some ⟨b, 0, none⟩), .agg #[.slice none 0 0, .int .i32 (-1), .bool false, .slice none 0 0]] w fun e w' => ∃ p : Nat, e = .returned (.pointer (some ⟨p, 0, none⟩)) ∧ Kept (fun i => i = mp) w w' := by
 have hbl := h.lt
 have HB := hid h
 have B0 := Blk.new w #[.slice none 0 0, .int .i32 (-1), .bool false, .slice none 0 0] 174
 have F := hid (key_none B0)
 have K0 : Hid (Kept Nil w (w.alloc (.cells #[.slice none 0 0, .int .i32 (-1), .bool false, .slice none 0 0] 174))) := (Kept.refl Nil w).alloc _
 have HM := hid hM
 have hks : (strOfNums [255, 0]).size = 2 := rfl
 have hkey : keyOf Tryz.prog 9 (.string (strOfNums [255, 0])) = some (.string (strOfNums [255, 0]).data.toList) := Go.WideMaps.keyOf_string_mk Tryz.underlying9 (by unfold maxLen; omega)
 clear h hM B0
 generalize strOfNums [255, 0] = s at *
 go_enter Tryz.func92, Tryz.ntmps92
 go_wp2_with fail
 refine (F.out).mono ?_
 rintro e w1 ⟨rfl, k1⟩
 have k1' := K0.out.trans k1
 have bE := HB.out.kept k1' (fun hx => hx)
 have c5 : w1.cell? ⟨b, 5, none⟩ = some (.map (some mp)) := bE.cell 5
 have c4 : w1.cell? ⟨b, 4, none⟩ = some (.int .i64 mo) := bE.cell 4
 have hM1 := ownsMap_kept HM.out k1' (fun hx => hx)
 have HM1 := hid hM1
 have K1 := hid k1'
 have HM2 := hid (ownsMap_kept HM.out k1'.drew (fun hx => hx))
 have hlen := hM1.len (t := 138) (e := 139) Tryz.underlying138
 have hlen' : ∀ ty, (Builtin.len_ #[138] ty #[.map (some mp)]).run Tryz.prog w1.drew = .ok (.int .i64 0) w1.drew := fun ty => by
  have := (ownsMap_kept HM.out (k1'.drew) (fun hx => hx)).len (t := 138) (e := 139) Tryz.underlying138 ty
  simpa [Maps.size] using this
 have hmo2 : ((0 : Int) == mo) = false := by simp; omega
 clear F K0 HB bE k1 k1' hM1
 go_wp2_with (at_lookup; refine wpList_lookup_own_ok _ rfl _ _ 138 rfl 9 139 lawStr Tryz.underlying138 anyElem (z := .pointer none) rfl (.lit (.bool true)) [] rfl mp 0 (.map []) rfl HM1.out _ _ rfl hkey ?_; intro v ps hv)
 clear hv hlen
 go_region
 go_wp2_with (at_mapUpdate; refine wpList_mapUpdate_own _ rfl _ _ _ 138 rfl 9 139 lawStr Tryz.underlying138 anyElem mp 0 (.map []) rfl HM2.out (by unfold maxLen; omega) _ _ _ rfl rfl hkey (.lit (.bool true)) [] rfl ?_)
 intro w3 hown3 hgrow3
 have KF : Hid (Kept (fun i => i = mp) w w3) := ((K1.out.drew).mono (fun i hx => hx.elim)).mapped hgrow3 (Or.inl rfl)
 clear hown3 hgrow3 HM2 HM1 K1 hlen'
 go_wp2_with fail
 go_ret
 exact ⟨_, rfl, KF.out⟩
set_option maxHeartbeats 1000000 in
theorem begin_none {w : World} {b mp : Nat} {st mo : Int} {fo cl : Value} {ed : Bool} (h : Blk w b (enC st fo ed cl mo mp (.pointer none) (.slice none 0 0)) 141) (hM : w.ownsMap Tryz.prog 9 anyElem mp 0 (.map [])) (hmb : mp ≠ b) (hml : mp < w.heap.size) (hmo : 2 ≤ mo) :
  Calls Tryz.prog 60 #[.pointer (some ⟨b, 0, none⟩), .int .i32 (-1)] w fun e w' => e = .returned (.tuple #[]) ∧ Kept (fun i => i = b ∨ i = mp) w w' := by
 have hbl := h.lt
 have c7 : w.cell? ⟨b, 7, none⟩ = some (.slice none 0 0) := h.cell 7
 have f7 : w.frozen? ⟨b, 7, none⟩ = false := h.frozen 7
 have h1 : Blk (w.setCell ⟨b, 7, none⟩ (.slice none 0 0)) b (enC st fo ed cl mo mp (.pointer none) (.slice none 0 0)) 141 := h.setCell 7 _
 have k1 : Kept (fun i => i = b) w (w.setCell ⟨b, 7, none⟩ (.slice none 0 0)) := (Kept.refl (fun i => i = b) w).setCell (p := ⟨b, 7, none⟩) (Or.inl rfl) _
 have hM1 := ownsMap_kept hM k1 hmb
 have F1 := hid (ksample_none h1)
 have F2 := hid (keep_none h1 hM1 hmb (by have := k1.size; omega) hmo)
 have HB := hid (And.intro h1 k1)
 clear h hM h1 k1 hM1
 go_enter Tryz.func60, Tryz.ntmps60
 go_wp2_with fail
 refine (F1.out).mono ?_
 rintro e w1 ⟨rfl, rfl⟩
 go_wp2_with fail
 refine (F2.out).mono ?_
 rintro e w2 ⟨p, rfl, k2⟩
 have b2 := HB.out.1.kept k2 (fun e => hmb e.symm)
 have c6 : w2.cell? ⟨b, 6, none⟩ = some (.pointer none) := b2.cell 6
 have f6 : w2.frozen? ⟨b, 6, none⟩ = false := b2.frozen 6
 have K2 : Hid (Kept (fun i => i = b ∨ i = mp) w w2) := (HB.out.2.mono (fun i hi => Or.inl hi)).trans (k2.mono (fun i hi => Or.inr hi))
 clear b2 k2 F1 F2 HB
 go_wp2_with fail
 go_end0
 exact ⟨rfl, K2.out.setCell (p := ⟨b, 6, none⟩) (Or.inl (Or.inl rfl)) _⟩
end Go.Proofs.YtfollffpibmgcaaGreatDoor
