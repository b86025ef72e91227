/- Worded's parts: two patterns that are alike, the maker. Worded: what the document says of brackets and times in terms of one another. -/
import Derived.Test.YtnbfddjaonlmaaaGreatDoorP43
import Derived.Test.YtnbfddjaonlmaaaGreatDoorP40
import Derived.Test.YtnbfddjaonlmaaaGreatDoorP33
set_option linter.unusedVariables false
set_option maxRecDepth 100000
namespace Go.Proofs.YtnbfddjaonlmaaaGreatDoor
open Go.RowKit Go.Maps
set_option maxRecDepth 100000

theorem evs_few (T : Nat → Got) (n : Nat) : ∀ (k i : Nat) (told : Option Nat), (evs T n k i told).length ≤ k
  | 0, _, _ => Nat.le_refl _
  | k + 1, i, told => by
    have ih := evs_few T n k
    unfold evs
    by_cases hn : n < i
    · rw [if_pos hn]; exact Nat.zero_le _
    · rw [if_neg hn]
      cases T i with
      | none => exact Nat.le_succ_of_le (ih _ _)
      | some v =>
        simp only
        have h1 := ih (v.1 + 1) told
        have h2 := ih (v.1 + 1) (some v.1)
        have h3 := ih v.1 (some v.1)
        split
        · split
          · omega
          · simp; omega
        · simp; omega
theorem findE_few (p s : ByteArray) : (findE p s).length ≤ s.size + 1 := by
  have h := evs_few (tryAt (patC p) (patG p) (txOf s)) (runesOf s).length ((runesOf s).length + 1 - 0) 0 none
  have h2 := runes_le s
  unfold findE evsFrom
  omega
def noEv : Ev := ⟨0, 0, []⟩
/-- what Find tells, as a row of events -/
theorem EvsAt.evs {w : World} {base : Nat} {v : Value} {p s : ByteArray} {l : List (Ev × Nat)} (h : EvsAt w base v s (2 * patG p) l) (hsz : p.size ≤ 300) (he : patE p = 0) (hg : patG p ≤ 1000) (hl : l.map (·.1) = findE p s) :
    ∃ GV, EvW w v (findE p s).length (fun k => (bd s ((findE p s).getD k noEv).a : Int)) (fun k => (bd s ((findE p s).getD k noEv).b : Int)) GV (fun k => ((findE p s).getD k noEv).gs) (fun k => s.extract (bd s ((findE p s).getD k noEv).a) (bd s ((findE p s).getD k noEv).b)) := by
  have hgok := (patC_ok hsz he).2.2.1
  have hA := evsFrom_apart (tryAt_fwd hgok s)
  have hN : ∀ q ∈ l, q.1.gs.length = 2 * patG p := fun q hq => by
    have hm : q.1 ∈ findE p s := by rw [← hl]; exact List.mem_map_of_mem hq
    have h1 := hA.mem q.1 hm
    exact (tryAt_fine hgok s (Nat.le_trans h1.1 h1.2.1) h1.2.2).2.2.1
  have hlen : l.length = (findE p s).length := by rw [← hl]; simp
  have gd : ∀ k, k < l.length → (l.getD k (⟨0, 0, []⟩, 0)).1 = (findE p s).getD k noEv := fun k hk => by
    rw [← hl]
    simp [List.getD_eq_getElem?_getD, hk]
  refine ⟨_, (h.evW hN (by omega)).congr hlen ?_ ?_ ?_ ?_⟩
  · intro k hk; simp only [gd k hk]
  · intro k hk; simp only [gd k hk]
  · intro k hk; simp only [gd k hk]
  · intro k hk; simp only [gd k hk]
theorem maxLen_300 {p : ByteArray} (h : p.size ≤ 300) : p.size ≤ maxLen := by unfold maxLen; omega
set_option maxHeartbeats 8000000 in
theorem alike_rd {p q s : ByteArray} {w : World} (h : Alk p q) (hs : s.size ≤ 10000000) (hT : Tabs w) : Calls Tryz.prog 16 #[.string p, .string q, .string s] w fun e w' => e = .returned (.bool true) ∧ Kept Nil w w' := by
  obtain ⟨M, hp, hq⟩ := h
  have HE := hid (hp.same hq s)
  have HF := hid (findE_few p s)
  have HP := hid hp
  have HQ := hid hq
  have HT := hid hT
  clear hp hq hT
  have F := hid (find_rd p s w (maxLen_300 HP.out.1) hs HT.out)
  go_enter Tryz.func16, Tryz.ntmps16
  go_wp2_with fail
  refine (F.out).mono ?_
  rintro e w1 ⟨k1, h⟩
  clear F
  rcases h with ⟨h, _⟩ | ⟨_, va, l, rfl, hE, hl⟩
  · exact absurd HP.out.2.1 h
  obtain ⟨GV, hE1⟩ := hE.evs HP.out.1 HP.out.2.1 (by rw [HP.out.2.2.1]; omega) hl
  have E1 := hid hE1
  have K1 := hid k1
  clear hE hl hE1 k1 l
  have F := hid (find_rd q s w1 (maxLen_300 HQ.out.1) hs (HT.out.keptN K1.out))
  go_wp2_with fail
  refine (F.out).mono ?_
  rintro e w2 ⟨k2, h⟩
  clear F
  rcases h with ⟨h, _⟩ | ⟨_, vb, l, rfl, hE, hl⟩
  · exact absurd HQ.out.2.1 h
  obtain ⟨GV2, hE2⟩ := hE.evs HQ.out.1 HQ.out.2.1 (by rw [HQ.out.2.2.1]; omega) hl
  rw [← HE.out] at hE2
  have F2 := hid (same_rd false (E1.out.kept k2) hE2 (by have := HF.out; omega) (fun h => by cases h))
  have K2 : Hid (Kept Nil w w2) := K1.out.trans k2
  clear hE hl hE2 k2 l E1 K1
  go_wp2_with fail
  refine (F2.out).mono ?_
  rintro e w3 ⟨rfl, k3⟩
  have K3 : Hid (Kept Nil w w3) := K2.out.trans k3
  clear F2 k3
  go_wp2_with fail
  go_ret
  exact ⟨rfl, K3.out⟩
/-- the maker in memory: block b, made in a world behind w; `at` numbers of zs were used, l pieces are left -/
structure MkAt (w W : World) (b : Nat) (v : Value) (zs : List Int) (a l : Nat) : Prop where
  blk : Blk W b #[v, .int .i64 (a : Int), .int .i64 (l : Int)] 40
  new : w.heap.size ≤ b
  kept : Kept Nil w W
  le : a ≤ zs.length
theorem MkAt.cell {w W : World} {b : Nat} {v : Value} {zs : List Int} {a l : Nat} (h : MkAt w W b v zs a l) : W.cell? ⟨b, 0, none⟩ = some v ∧ W.cell? ⟨b, 1, none⟩ = some (.int .i64 (a : Int)) ∧ W.cell? ⟨b, 2, none⟩ = some (.int .i64 (l : Int)) ∧ ∀ i, W.frozen? ⟨b, i, none⟩ = false := ⟨h.blk.cell 0, h.blk.cell 1, h.blk.cell 2, h.blk.frozen⟩
theorem MkAt.drewN {w W : World} {b : Nat} {v : Value} {zs : List Int} {a l : Nat} (h : MkAt w W b v zs a l) (n : Nat) : MkAt w (W.drewN n) b v zs a l := ⟨h.blk, h.new, h.kept.drewN n, h.le⟩
theorem MkAt.step {w W : World} {b : Nat} {v : Value} {zs : List Int} {a l : Nat} (h : MkAt w W b v zs a l) (hlt : a < zs.length) : MkAt w (W.setCell ⟨b, 1, none⟩ (.int .i64 ((a : Int) + 1))) b v zs (a + 1) l := by
  refine ⟨?_, h.new, h.kept.setCell (Or.inr h.new) _, hlt⟩
  have := h.blk.setCell 1 (.int .i64 ((a : Int) + 1))
  have e : ((a + 1 : Nat) : Int) = (a : Int) + 1 := by omega
  rw [e]
  exact this
theorem MkAt.less {w W : World} {b : Nat} {v : Value} {zs : List Int} {a l : Nat} (h : MkAt w W b v zs a (l + 1)) : MkAt w (W.setCell ⟨b, 2, none⟩ (.int .i64 (l : Int))) b v zs a l := ⟨h.blk.setCell 2 (.int .i64 (l : Int)), h.new, h.kept.setCell (Or.inr h.new) _, h.le⟩
theorem pick_val (c : Int) (n : Nat) (hn : 0 < n) (hn2 : n ≤ 1000) (h1 : -9223372036854775808 ≤ c) (h2 : c ≤ 9223372036854775807) : ∃ k : Nat, k < n ∧ ∀ w, Calls Tryz.prog 13 #[.int .i64 c, .int .i64 (n : Int)] w fun e w' => e = .returned (.int .i64 (k : Int)) ∧ w' = w := by
  have hz : ((n : Int) == 0) = false := by simp; omega
  by_cases h0 : c < 0
  · have h := tmod_small (-(c + 1)) n (by omega) (by omega)
    refine ⟨((-(c + 1)).tmod n).toNat, by omega, fun w => ?_⟩
    have e : (((-(c + 1)).tmod n).toNat : Int) = -((c + 1).tmod n) := by rw [← Int.neg_tmod]; omega
    rw [e]
    clear h e
    go_enter Tryz.func13, Tryz.ntmps13
    go_wp2_with fail
    go_ret
    exact ⟨rfl, rfl⟩
  · have hc : 0 ≤ c := by omega
    have h1 := Int.emod_nonneg c (show (n : Int) ≠ 0 by omega)
    have h2 := Int.emod_lt_of_pos c (show (0 : Int) < n by omega)
    refine ⟨(c % n).toNat, by omega, fun w => ?_⟩
    have e : ((c % n).toNat : Int) = c % n := by omega
    rw [e]
    clear e h1 h2
    go_enter Tryz.func13, Tryz.ntmps13
    go_wp2_with fail
    go_ret
    exact ⟨rfl, rfl⟩
set_option maxHeartbeats 8000000 in
theorem next_rd {w W : World} {b : Nat} {v : Value} {zs : List Int} {a l : Nat} (n : Nat) (hn : 0 < n) (hn2 : n ≤ 1000) (hR : RawAt w v zs) (hz : zs.length ≤ 10000000) (hM : MkAt w W b v zs a l) : Calls Tryz.prog 25 #[.pointer (some ⟨b, 0, none⟩), .int .i64 (n : Int)] W fun e w' => ∃ k a' : Nat, e = .returned (.int .i64 (k : Int)) ∧ k < n ∧ MkAt w w' b v zs a' l := by
  have HM := hid hM
  obtain ⟨c0, c1, c2, cf⟩ := hM.cell
  have f1 := cf 1
  have hle := hM.le
  clear hM c2 cf
  obtain ⟨ao, c, hv⟩ : ∃ ao c, v = .slice ao zs.length c := by
    rcases hR with ⟨rfl, rfl⟩ | ⟨ad, c, rfl, _⟩
    · exact ⟨none, 0, rfl⟩
    · exact ⟨_, _, rfl⟩
  subst hv
  have HR := hid hR
  clear hR
  by_cases hlt : a < zs.length
  · have hng : decide (zs.length ≤ a) = false := by simp; omega
    go_enter Tryz.func25, Tryz.ntmps25
    go_wp2_with fail
    go_big_quiet (fail)
    have HM2 := hid (HM.out.drewN nq)
    clear HM c0 c1 f1
    generalize W.drewN nq = W2 at *
    obtain ⟨c0, c1, c2, cf⟩ := HM2.out.cell
    have f1 := cf 1
    have M1 := hid (HM2.out.step hlt)
    clear cf HM2 c2 nq hle
    go_wp2_with fail
    obtain ⟨d0, d1, _, _⟩ := M1.out.cell
    rcases HR.out.kept M1.out.kept with ⟨_, h⟩ | ⟨ad, c', e, hc, h3, h4⟩
    · rw [h] at hlt; cases hlt
    simp only [Value.slice.injEq, true_and] at e
    obtain ⟨rfl, rfl⟩ := e
    have e1 := h3 a hlt
    have hb := h4 (zs.getD a 0) (by simp [List.getD_eq_getElem?_getD, hlt])
    generalize zs.getD a 0 = z at *
    obtain ⟨k, hk, hp⟩ := pick_val z n hn hn2 hb.1 hb.2
    have F := hid hp
    clear h3 h4 hp hb HR c0 c1 f1
    have ecast : ((a + 1 : Nat) : Int) = (a : Int) + 1 := by omega
    rw [ecast] at d1
    clear ecast
    generalize W2.setCell ⟨b, 1, none⟩ (.int .i64 ((a : Int) + 1)) = W3 at *
    go_big_quiet (first | (go_at_call 13; refine Calls.quiet_of_same (F.out _)))
    go_wp2_with fail
    go_ret
    exact ⟨k, a + 1, rfl, hk, M1.out.drewN _⟩
  · have hng : decide (zs.length ≤ a) = true := by simp; omega
    clear hle
    go_enter Tryz.func25, Tryz.ntmps25
    go_wp2_with fail
    go_big_quiet (fail)
    go_wp2_with fail
    go_ret
    exact ⟨0, a, rfl, hn, HM.out.drewN _⟩
theorem md_size {n : Nat} {s : ByteArray} {M : Mean} (h : Md n s.data.toList M) (hn : n ≤ 8) : s.size ≤ 49 := by
  have := h.len
  simp at this
  omega
set_option maxHeartbeats 16000000 in
theorem make_rd {w : World} {b : Nat} {v : Value} {zs : List Int} (hR : RawAt w v zs) (hz : zs.length ≤ 10000000) : ∀ (l : Nat) (W : World) (a : Nat), l ≤ 8 → MkAt w W b v zs a l → Calls Tryz.prog 15 #[.pointer (some ⟨b, 0, none⟩)] W fun e w' => ∃ (s : ByteArray) (n a' l' : Nat) (M : Mean), e = .returned (.string s) ∧ Md n s.data.toList M ∧ n + l' ≤ l ∧ MkAt w w' b v zs a' l' := by
  intro l
  induction l using Nat.strongRecOn with
  | ind l ih =>
    intro W a hl hM
    have HI := hid ih
    have HM := hid hM
    obtain ⟨_, _, c2, cf⟩ := hM.cell
    have f2 := cf 2
    clear ih hM cf
    cases l with
    | zero =>
      obtain ⟨M, hA⟩ := Md.a 0
      have HA := hid hA
      clear hA
      go_enter Tryz.func15, Tryz.ntmps15
      go_wp2_with fail
      go_ret
      exact ⟨⟨#[97]⟩, 0, a, 0, M, rfl, HA.out, Nat.le_refl _, HM.out⟩
    | succ l =>
      have hcast : ((l + 1 : Nat) : Int) = (l : Int) + 1 := by omega
      rw [hcast] at c2
      have M1 := hid HM.out.less
      have F := hid (next_rd 10 (by decide) (by decide) hR hz M1.out)
      clear HM hcast hR
      go_enter Tryz.func15, Tryz.ntmps15
      go_wp2_with fail
      refine (F.out).mono ?_
      rintro e w1 ⟨k, a1, rfl, hk, hM1⟩
      have HM1 := hid hM1
      clear F M1 c2 f2 hM1
      have hk10 : k = 0 ∨ k = 1 ∨ k = 2 ∨ k = 3 ∨ k = 4 ∨ k = 5 ∨ k = 6 ∨ k = 7 ∨ k = 8 ∨ k = 9 := by omega
      clear hk
      rcases hk10 with rfl | rfl | rfl | rfl | rfl | rfl | rfl | rfl | rfl | rfl
      · obtain ⟨M, hA⟩ := Md.a 0
        have HA := hid hA
        clear hA
        go_wp2_with fail
        go_ret
        exact ⟨⟨#[97]⟩, 0, a1, l, M, rfl, HA.out, by omega, HM1.out⟩
      · obtain ⟨M, hA⟩ := Md.ab 0
        have HA := hid hA
        clear hA
        go_wp2_with fail
        go_ret
        exact ⟨⟨#[91, 97, 98, 93]⟩, 1, a1, l, M, rfl, HA.out, by omega, HM1.out⟩
      · obtain ⟨M, hA⟩ := Md.dot 0
        have HA := hid hA
        clear hA
        go_wp2_with fail
        go_ret
        exact ⟨⟨#[46]⟩, 0, a1, l, M, rfl, HA.out, by omega, HM1.out⟩
      · obtain ⟨M, hA⟩ := Md.edge 0
        have HA := hid hA
        clear hA
        go_wp2_with fail
        go_ret
        exact ⟨⟨#[92, 98]⟩, 1, a1, l, M, rfl, HA.out, by omega, HM1.out⟩
      · have F := hid (HI.out l (by omega) w1 a1 (by omega) HM1.out)
        clear HM1
        go_wp2_with fail
        refine (F.out).mono ?_
        rintro e w2 ⟨s1, n1, a2, l2, N1, rfl, h1, hn1, hM2⟩
        have z1 := md_size h1 (by omega)
        have H1 := hid h1
        have F2 := hid (HI.out l2 (by omega) w2 a2 (by omega) hM2)
        clear F h1 hM2
        go_wp2_with fail
        refine (F2.out).mono ?_
        rintro e w3 ⟨s2, n2, a3, l3, N2, rfl, h2, hn2, hM3⟩
        have z2 := md_size h2 (by omega)
        obtain ⟨M, hC⟩ := H1.out.cat h2
        have FIN := hid (And.intro hC hM3)
        clear F2 h2 hM3 hC
        go_wp2_with fail
        go_ret
        refine ⟨s1 ++ s2, n1 + n2 + 1, a3, l3, M, rfl, ?_, by omega, FIN.out.2⟩
        have e : (s1 ++ s2).data.toList = s1.data.toList ++ s2.data.toList := by simp
        rw [e]
        exact FIN.out.1
      · have F := hid (HI.out l (by omega) w1 a1 (by omega) HM1.out)
        clear HM1
        go_wp2_with fail
        refine (F.out).mono ?_
        rintro e w2 ⟨s1, n1, a2, l2, N1, rfl, h1, hn1, hM2⟩
        have z1 := md_size h1 (by omega)
        have H1 := hid h1
        have F2 := hid (HI.out l2 (by omega) w2 a2 (by omega) hM2)
        clear F h1 hM2
        go_wp2_with fail
        refine (F2.out).mono ?_
        rintro e w3 ⟨s2, n2, a3, l3, N2, rfl, h2, hn2, hM3⟩
        have z2 := md_size h2 (by omega)
        obtain ⟨M, hC⟩ := H1.out.cat h2
        have FIN := hid (And.intro hC hM3)
        clear F2 h2 hM3 hC
        go_wp2_with fail
        go_ret
        refine ⟨s1 ++ s2, n1 + n2 + 1, a3, l3, M, rfl, ?_, by omega, FIN.out.2⟩
        have e : (s1 ++ s2).data.toList = s1.data.toList ++ s2.data.toList := by simp
        rw [e]
        exact FIN.out.1
      · have F := hid (HI.out l (by omega) w1 a1 (by omega) HM1.out)
        clear HM1
        go_wp2_with fail
        refine (F.out).mono ?_
        rintro e w2 ⟨s1, n1, a2, l2, N1, rfl, h1, hn1, hM2⟩
        have z1 := md_size h1 (by omega)
        have H1 := hid h1
        have F2 := hid (HI.out l2 (by omega) w2 a2 (by omega) hM2)
        clear F h1 hM2
        go_wp2_with fail
        refine (F2.out).mono ?_
        rintro e w3 ⟨s2, n2, a3, l3, N2, rfl, h2, hn2, hM3⟩
        have z2 := md_size h2 (by omega)
        obtain ⟨M, hC⟩ := H1.out.bar h2
        have FIN := hid (And.intro hC hM3)
        clear F2 h2 hM3 hC
        go_wp2_with fail
        go_ret
        refine ⟨(⟨#[40, 63, 58]⟩ : ByteArray) ++ s1 ++ (⟨#[124]⟩ : ByteArray) ++ s2 ++ (⟨#[41]⟩ : ByteArray), n1 + n2 + 1, a3, l3, M, rfl, ?_, by omega, FIN.out.2⟩
        have e : ((⟨#[40, 63, 58]⟩ : ByteArray) ++ s1 ++ (⟨#[124]⟩ : ByteArray) ++ s2 ++ (⟨#[41]⟩ : ByteArray)).data.toList = eL (s1.data.toList ++ ([124] ++ s2.data.toList)) := by simp [eL]
        rw [e]
        exact FIN.out.1
      · have F := hid (HI.out l (by omega) w1 a1 (by omega) HM1.out)
        clear HM1
        go_wp2_with fail
        refine (F.out).mono ?_
        rintro e w2 ⟨s1, n1, a2, l2, N1, rfl, h1, hn1, hM2⟩
        have z1 := md_size h1 (by omega)
        have H1 := hid h1
        obtain ⟨M, hC⟩ := H1.out.star
        have FIN := hid (And.intro hC hM2)
        clear F h1 hM2 hC
        go_wp2_with fail
        go_ret
        refine ⟨(⟨#[40, 63, 58]⟩ : ByteArray) ++ s1 ++ (⟨#[41, 42]⟩ : ByteArray), n1 + 1, a2, l2, M, rfl, ?_, by omega, FIN.out.2⟩
        have e : ((⟨#[40, 63, 58]⟩ : ByteArray) ++ s1 ++ (⟨#[41, 42]⟩ : ByteArray)).data.toList = eL s1.data.toList ++ [42] := by simp [eL]
        rw [e]
        exact FIN.out.1
      · have F := hid (HI.out l (by omega) w1 a1 (by omega) HM1.out)
        clear HM1
        go_wp2_with fail
        refine (F.out).mono ?_
        rintro e w2 ⟨s1, n1, a2, l2, N1, rfl, h1, hn1, hM2⟩
        have z1 := md_size h1 (by omega)
        have H1 := hid h1
        obtain ⟨M, hC⟩ := H1.out.opt
        have FIN := hid (And.intro hC hM2)
        clear F h1 hM2 hC
        go_wp2_with fail
        go_ret
        refine ⟨(⟨#[40, 63, 58]⟩ : ByteArray) ++ s1 ++ (⟨#[41, 63, 63]⟩ : ByteArray), n1 + 1, a2, l2, M, rfl, ?_, by omega, FIN.out.2⟩
        have e : ((⟨#[40, 63, 58]⟩ : ByteArray) ++ s1 ++ (⟨#[41, 63, 63]⟩ : ByteArray)).data.toList = eL s1.data.toList ++ [63, 63] := by simp [eL]
        rw [e]
        exact FIN.out.1
      · obtain ⟨M, hA⟩ := Md.b 0
        have HA := hid hA
        clear hA
        go_wp2_with fail
        go_ret
        exact ⟨⟨#[98]⟩, 0, a1, l, M, rfl, HA.out, by omega, HM1.out⟩

/-- what Find tells of the pattern in a group: each event's one group is the event -/
theorem grp_evs {s : ByteArray} {l m : List Ev} (h : m = l.map fun e => (⟨e.a, e.b, [(txOf s).bound e.a, (txOf s).bound e.b]⟩ : Ev)) : m.length = l.length ∧ ∀ k, k < l.length → (m.getD k noEv).a = (l.getD k noEv).a ∧ (m.getD k noEv).b = (l.getD k noEv).b ∧ (m.getD k noEv).gs = [(bd s (l.getD k noEv).a : Int), (bd s (l.getD k noEv).b : Int)] := by
  subst h
  refine ⟨by simp, fun k hk => ?_⟩
  simp [List.getD_eq_getElem?_getD, hk, bound_bd]
/-- what Find tells of a pattern and of the same in a group, in memory -/
theorem grp_two {n : Nat} {p q : ByteArray} {M : Mean} (h : Md n p.data.toList M) (hn : n ≤ 8) (hq : q.data.toList = 40 :: (p.data.toList ++ [41])) (s : ByteArray) : p.size ≤ 300 ∧ q.size ≤ 300 ∧ patE p = 0 ∧ patE q = 0 ∧ ∃ (N : Nat) (EA EB : Nat → Int) (ET : Nat → ByteArray), N ≤ s.size + 1 ∧
    (∀ (W : World) (base : Nat) (v : Value) (l : List (Ev × Nat)), EvsAt W base v s (2 * patG q) l → l.map (·.1) = findE q s → ∃ GV, EvW W v N EA EB GV (fun k => [EA k, EB k]) ET) ∧
    (∀ (W : World) (base : Nat) (v : Value) (l : List (Ev × Nat)), EvsAt W base v s (2 * patG p) l → l.map (·.1) = findE p s → ∃ GV GS, EvW W v N EA EB GV GS ET) := by
  obtain ⟨g1, g2, g3, g4, g5, g6, g7⟩ := h.group hn hq s
  refine ⟨g1, g2, g3, g4, (findE p s).length, fun k => (bd s ((findE p s).getD k noEv).a : Int), fun k => (bd s ((findE p s).getD k noEv).b : Int), fun k => s.extract (bd s ((findE p s).getD k noEv).a) (bd s ((findE p s).getD k noEv).b), findE_few p s, fun W base v l hE hl => ?_, fun W base v l hE hl => ?_⟩
  · obtain ⟨GV, hE1⟩ := hE.evs g2 g4 (by rw [g6]; omega) hl
    obtain ⟨gl, gk⟩ := grp_evs g7
    refine ⟨GV, hE1.congr gl ?_ ?_ ?_ ?_⟩
    · intro k hk; simp only [(gk k (by omega)).1]
    · intro k hk; simp only [(gk k (by omega)).2.1]
    · intro k hk; exact (gk k (by omega)).2.2
    · intro k hk; simp only [(gk k (by omega)).1, (gk k (by omega)).2.1]
  · obtain ⟨GV, hE1⟩ := hE.evs g1 g3 (by rw [g5]; omega) hl
    exact ⟨GV, _, hE1⟩
/-- three cells of an event -/
def EvS (g k : Nat) (a b : Int) (gv : Value) (W : World) : Prop := W.cell? ⟨g, k * 4, none⟩ = some (.int .i64 a) ∧ W.cell? ⟨g, k * 4 + 1, none⟩ = some (.int .i64 b) ∧ W.cell? ⟨g, k * 4 + 2, none⟩ = some gv
set_option maxHeartbeats 32000000 in
theorem worded_walk {w : World} {v v2 : Value} {zs ys : List Int} (hR : RawAt w v zs) (hR2 : RawAt w v2 ys) (hz : zs.length ≤ 10000000) (hy : ys.length ≤ 10000000) (hT : Tabs w) : Calls Tryz.prog 5 #[v, v2] w fun e w' => e = .returned (.bool true) ∧ Kept Nil w w' := by
  have HT := hid hT
  have HR2 := hid hR2
  obtain ⟨ao, c0, hv⟩ : ∃ ao c, v = .slice ao zs.length c := by
    rcases hR with ⟨rfl, rfl⟩ | ⟨ad, c, rfl, _⟩
    · exact ⟨none, 0, rfl⟩
    · exact ⟨_, _, rfl⟩
  subst hv
  have HM := hid (fun (W : World) (h : MkAt w W w.heap.size (.slice ao zs.length c0) zs 0 8) => make_rd hR hz 8 W 0 (Nat.le_refl _) h)
  clear hR hR2 hT
  go_enter Tryz.func5, Tryz.ntmps5
  go_wp2_with fail
  have F := hid (HM.out _ ⟨Blk.new w #[.slice ao zs.length c0, .int .i64 0, .int .i64 8] 40, Nat.le_refl _, (Kept.refl Nil w).alloc _, Nat.zero_le _⟩)
  clear HM
  refine (F.out).mono ?_
  rintro e w1 ⟨p, n, a', l', M, rfl, hM, hn, hK⟩
  have K1 : Hid (Kept Nil w w1) := hK.kept
  have hpz : p.size ≤ 49 := md_size hM (by omega)
  have HMd := hid hM
  have hn8 : n ≤ 8 := by omega
  have F2 := hid (letters_rd (of := ⟨#[97, 98, 99]⟩) (HR2.out.kept K1.out) hy (by decide) (by decide))
  clear F hM hK hn
  go_wp2_with fail
  refine (F2.out).mono ?_
  rintro e w1 ⟨⟨s, rfl, hsz, hsl⟩, rfl⟩
  have hs : s.size ≤ 10000000 := by omega
  clear F2 hsl hsz HR2
  obtain ⟨e, HEe⟩ : ∃ e, Hid ((⟨#[40, 63, 58]⟩ : ByteArray) ++ p ++ (⟨#[41]⟩ : ByteArray) = e) := ⟨_, (rfl : _ = _)⟩
  obtain ⟨q, HEq⟩ : ∃ q, Hid ((⟨#[40]⟩ : ByteArray) ++ p ++ (⟨#[41]⟩ : ByteArray) = q) := ⟨_, (rfl : _ = _)⟩
  have he : e.data.toList = eL p.data.toList := by rw [← HEe.out]; simp [eL]
  have hq : q.data.toList = 40 :: (p.data.toList ++ [41]) := by rw [← HEq.out]; simp
  have hez : e.size ≤ 53 := by
    have h := congrArg List.length he
    rw [eL_len] at h
    simp at h
    omega
  have A := hid (HMd.out.worded hn8 he)
  obtain ⟨gp, gq, ep, eq, N, EA, EB, ET, hN, hGQ, hGP⟩ := grp_two HMd.out hn8 hq s
  have HP := hid (And.intro gp ep)
  have HQ := hid (And.intro gq eq)
  have GQ := hid hGQ
  have GP := hid hGP
  clear gp gq ep eq hGQ hGP
  clear he hq HMd hn8
  go_wp2_with fail
  rw [HEe.out]
  have F := hid (alike_rd A.out.1 hs (HT.out.keptN K1.out))
  go_wp2_with fail
  refine (F.out).mono ?_
  rintro e' x0 ⟨rfl, k2⟩
  have KK0 : Hid (Kept Nil w x0) := K1.out.trans k2
  clear F k2 K1
  have F := hid (alike_rd A.out.2.1 hs (HT.out.keptN KK0.out))
  go_wp2_with fail
  refine (F.out).mono ?_
  rintro e' x1 ⟨rfl, k2⟩
  have KK1 : Hid (Kept Nil w x1) := KK0.out.trans k2
  clear F k2 KK0
  have F := hid (alike_rd A.out.2.2.1 hs (HT.out.keptN KK1.out))
  go_wp2_with fail
  refine (F.out).mono ?_
  rintro e' x2 ⟨rfl, k2⟩
  have KK2 : Hid (Kept Nil w x2) := KK1.out.trans k2
  clear F k2 KK1
  have F := hid (alike_rd A.out.2.2.2.1 hs (HT.out.keptN KK2.out))
  go_wp2_with fail
  refine (F.out).mono ?_
  rintro e' x3 ⟨rfl, k2⟩
  have KK3 : Hid (Kept Nil w x3) := KK2.out.trans k2
  clear F k2 KK2
  have F := hid (alike_rd A.out.2.2.2.2.1 hs (HT.out.keptN KK3.out))
  go_wp2_with fail
  refine (F.out).mono ?_
  rintro e' x4 ⟨rfl, k2⟩
  have KK4 : Hid (Kept Nil w x4) := KK3.out.trans k2
  clear F k2 KK3
  have F := hid (alike_rd A.out.2.2.2.2.2.1 hs (HT.out.keptN KK4.out))
  go_wp2_with fail
  refine (F.out).mono ?_
  rintro e' x5 ⟨rfl, k2⟩
  have KK5 : Hid (Kept Nil w x5) := KK4.out.trans k2
  clear F k2 KK4
  have F := hid (alike_rd A.out.2.2.2.2.2.2.1 hs (HT.out.keptN KK5.out))
  go_wp2_with fail
  refine (F.out).mono ?_
  rintro e' x6 ⟨rfl, k2⟩
  have KK6 : Hid (Kept Nil w x6) := KK5.out.trans k2
  clear F k2 KK5
  have F := hid (alike_rd A.out.2.2.2.2.2.2.2 hs (HT.out.keptN KK6.out))
  go_wp2_with fail
  refine (F.out).mono ?_
  rintro e' x7 ⟨rfl, k2⟩
  have KK7 : Hid (Kept Nil w x7) := KK6.out.trans k2
  clear F k2 KK6
  clear A
  have F := hid (find_rd q s x7 (maxLen_300 HQ.out.1) hs (HT.out.keptN KK7.out))
  go_wp2_with fail
  rw [HEq.out]
  refine (F.out).mono ?_
  rintro e' y1 ⟨k2, h⟩
  clear F
  rcases h with ⟨h, _⟩ | ⟨_, va, l, rfl, hE, hl⟩
  · exact absurd HQ.out.2 h
  obtain ⟨GV, hE1⟩ := GQ.out _ _ _ _ hE hl
  have E1 := hid hE1
  have Y1 : Hid (Kept Nil w y1) := KK7.out.trans k2
  clear hE hl hE1 k2 l KK7 GQ HQ
  have F := hid (find_rd p s y1 (maxLen_300 HP.out.1) hs (HT.out.keptN Y1.out))
  go_wp2_with fail
  refine (F.out).mono ?_
  rintro e' y2 ⟨k2, h⟩
  clear F
  rcases h with ⟨h, _⟩ | ⟨_, vb, l, rfl, hE, hl⟩
  · exact absurd HP.out.2 h
  obtain ⟨GV2, GS2, hE1⟩ := GP.out _ _ _ _ hE hl
  have E1b := hid (E1.out.kept k2)
  have F := hid (same_rd false E1b.out hE1 (by omega) (fun h => by cases h))
  have Y2 : Hid (Kept Nil w y2) := Y1.out.trans k2
  clear hE hl hE1 k2 l E1 Y1 GP HP
  obtain ⟨o, c, rfl⟩ : ∃ o c, va = .slice o N c := by
    rcases E1b.out.val with ⟨h, o, c, h2⟩ | ⟨g, c, h2, _⟩
    · subst h; exact ⟨o, c, h2⟩
    · exact ⟨_, c, h2⟩
  go_wp2_with fail
  refine (F.out).mono ?_
  rintro e' y3 ⟨rfl, k3⟩
  have E1 := hid (E1b.out.kept k3)
  have Y3 : Hid (Kept Nil w y3) := Y2.out.trans k3
  clear F k3 E1b Y2
  go_wp2_with fail
  go_loopg [21, 22] N (fun kk gv i wr => ∃ j : Nat, gv = .bool true ∧ i = .int .i64 j ∧ j ≤ N ∧ kk = N - j ∧ Hid (Kept Nil y3 wr))
  case atStart => exact ⟨0, rfl, rfl, Nat.zero_le _, rfl, Kept.refl _ _⟩
  case round =>
    obtain ⟨j, rfl, rfl, hj, rfl, K⟩ := hrel
    by_cases hlt : j < N
    · have E2 := E1.out.kept K.out
      obtain ⟨g, c2, e2, hg, hc⟩ := E2.val.resolve_left (fun h => by omega)
      simp only [Value.slice.injEq, true_and] at e2
      obtain ⟨rfl, rfl⟩ := e2
      obtain ⟨a0, a1, a2, _⟩ := hc j hlt
      have hgv := E2.gv j hlt
      have PS : Hid (∀ W, Kept Nil wr W → EvS g j (EA j) (EB j) (GV j) W) := fun W k => by
        have kc : ∀ i, W.cell? ⟨g, i, none⟩ = wr.cell? ⟨g, i, none⟩ := fun i => k.cell (p := ⟨g, i, none⟩) hg (fun h => h)
        exact ⟨(kc _).trans a0, (kc _).trans a1, (kc _).trans a2⟩
      have HGV := hid hgv.1
      clear hc E2 hgv a0 a1 a2
      generalize EA j = ea at *
      generalize EB j = eb at *
      generalize GV j = gv at *
      go_wp2_with fail
      have hS0 := PS.out wr.drew (Kept.refl Nil wr).drew
      refine wp_just (wp_region_any (by kernel_rfl) (wpAny_of_held (S := EvS g j ea eb gv) _ _ _ _ ?_))
      refine takeH 0 122 (.slice (some ⟨g, 0, none⟩) N c) rfl rfl (by kernel_rfl) (by kernel_rfl) (by kernel_rfl) (fun _ _ _ h => h) (Or.inl ⟨by rfl, fun W hSW => by obtain ⟨b0, b1, b2⟩ := hSW; go_simp⟩) hS0 ?_
      refine takeH 1 123 (.int .i64 (j : Int)) rfl rfl (by kernel_rfl) (by kernel_rfl) (by kernel_rfl) (fun _ _ _ h => h) (Or.inl ⟨by rfl, fun W hSW => by obtain ⟨b0, b1, b2⟩ := hSW; go_simp⟩) hS0 ?_
      refine takeH 2 124 (.pointer (some ⟨g, j * 4, none⟩)) rfl rfl (by kernel_rfl) (by kernel_rfl) (by kernel_rfl) (fun _ _ _ h => h) (Or.inl ⟨by rfl, fun W hSW => by obtain ⟨b0, b1, b2⟩ := hSW; go_simp⟩) hS0 ?_
      refine takeH 3 125 (.pointer (some ⟨g, j * 4 + 2, none⟩)) rfl rfl (by kernel_rfl) (by kernel_rfl) (by kernel_rfl) (fun _ _ _ h => h) (Or.inl ⟨by rfl, fun W hSW => by obtain ⟨b0, b1, b2⟩ := hSW; go_simp⟩) hS0 ?_
      refine takeH 4 126 (gv) rfl rfl (by kernel_rfl) (by kernel_rfl) (by kernel_rfl) (fun _ _ _ h => h) (Or.inl ⟨by rfl, fun W hSW => by obtain ⟨b0, b1, b2⟩ := hSW; go_simp⟩) hS0 ?_
      refine takeH 5 127 (.slice (some ⟨g, 0, none⟩) N c) rfl rfl (by kernel_rfl) (by kernel_rfl) (by kernel_rfl) (fun _ _ _ h => h) (Or.inl ⟨by rfl, fun W hSW => by obtain ⟨b0, b1, b2⟩ := hSW; go_simp⟩) hS0 ?_
      refine takeH 6 128 (.int .i64 (j : Int)) rfl rfl (by kernel_rfl) (by kernel_rfl) (by kernel_rfl) (fun _ _ _ h => h) (Or.inl ⟨by rfl, fun W hSW => by obtain ⟨b0, b1, b2⟩ := hSW; go_simp⟩) hS0 ?_
      refine takeH 7 129 (.pointer (some ⟨g, j * 4, none⟩)) rfl rfl (by kernel_rfl) (by kernel_rfl) (by kernel_rfl) (fun _ _ _ h => h) (Or.inl ⟨by rfl, fun W hSW => by obtain ⟨b0, b1, b2⟩ := hSW; go_simp⟩) hS0 ?_
      refine takeH 8 130 (.pointer (some ⟨g, j * 4, none⟩)) rfl rfl (by kernel_rfl) (by kernel_rfl) (by kernel_rfl) (fun _ _ _ h => h) (Or.inl ⟨by rfl, fun W hSW => by obtain ⟨b0, b1, b2⟩ := hSW; go_simp⟩) hS0 ?_
      refine takeH 9 131 (.int .i64 ea) rfl rfl (by kernel_rfl) (by kernel_rfl) (by kernel_rfl) (fun _ _ _ h => h) (Or.inl ⟨by rfl, fun W hSW => by obtain ⟨b0, b1, b2⟩ := hSW; go_simp⟩) hS0 ?_
      refine takeH 10 132 (.slice (some ⟨g, 0, none⟩) N c) rfl rfl (by kernel_rfl) (by kernel_rfl) (by kernel_rfl) (fun _ _ _ h => h) (Or.inl ⟨by rfl, fun W hSW => by obtain ⟨b0, b1, b2⟩ := hSW; go_simp⟩) hS0 ?_
      refine takeH 11 133 (.int .i64 (j : Int)) rfl rfl (by kernel_rfl) (by kernel_rfl) (by kernel_rfl) (fun _ _ _ h => h) (Or.inl ⟨by rfl, fun W hSW => by obtain ⟨b0, b1, b2⟩ := hSW; go_simp⟩) hS0 ?_
      refine takeH 12 134 (.pointer (some ⟨g, j * 4, none⟩)) rfl rfl (by kernel_rfl) (by kernel_rfl) (by kernel_rfl) (fun _ _ _ h => h) (Or.inl ⟨by rfl, fun W hSW => by obtain ⟨b0, b1, b2⟩ := hSW; go_simp⟩) hS0 ?_
      refine takeH 13 135 (.pointer (some ⟨g, j * 4 + 1, none⟩)) rfl rfl (by kernel_rfl) (by kernel_rfl) (by kernel_rfl) (fun _ _ _ h => h) (Or.inl ⟨by rfl, fun W hSW => by obtain ⟨b0, b1, b2⟩ := hSW; go_simp⟩) hS0 ?_
      refine takeH 14 136 (.int .i64 eb) rfl rfl (by kernel_rfl) (by kernel_rfl) (by kernel_rfl) (fun _ _ _ h => h) (Or.inl ⟨by rfl, fun W hSW => by obtain ⟨b0, b1, b2⟩ := hSW; go_simp⟩) hS0 ?_
      simp only [Act.put, List.setIfInBounds_toArray, List.set_cons_zero, List.set_cons_succ]
      refine wpAnyH_ready (rs := [15]) (by kernel_rfl) (by simp) (AllReadyH.cons rfl (fun K hK => ?_) AllReadyH.nil)
      go_simp
      have kA : Kept Nil wr (wr.alloc (.cells #[.int .i64 ea, .int .i64 eb] 3)).drew := ((Kept.refl Nil wr).alloc _).drew
      have BA : Blk (wr.alloc (.cells #[.int .i64 ea, .int .i64 eb] 3)).drew wr.heap.size #[.int .i64 ea, .int .i64 eb] 3 := Blk.new wr _ _
      have F := hid (sameInts_gen (HGV.out.kept kA) (show IntsV (wr.alloc (.cells #[.int .i64 ea, .int .i64 eb] 3)).drew (.slice (some ⟨wr.heap.size, 0, none⟩) 2 2) [ea, eb] from Or.inr ⟨wr.heap.size, 2, rfl, BA⟩) (by simp) (by simp))
      have KA := hid kA
      refine hK.out _ _ (PS.out _ kA) (fun _ => ?_)
      clear hK K kA BA
      generalize (wr.alloc (.cells #[.int .i64 ea, .int .i64 eb] 3)).drew = wA at *
      refine wpAnyH_ready (rs := [16]) (by kernel_rfl) (by simp) (AllReadyH.cons rfl (fun K hK => ?_) AllReadyH.nil)
      go_simp
      refine (F.out).mono ?_
      rintro e' w5 ⟨rfl, m, rfl⟩
      clear F
      have hd : decide ([ea, eb] = [ea, eb]) = true := by simp
      rw [hd]
      have KB : Hid (Kept Nil wr (wA.drewN m)) := KA.out.drewN m
      dsimp only
      have hS2 := PS.out _ KB.out
      refine hK.out _ _ hS2 (fun _ => ?_)
      clear hK K KA hd
      generalize wA.drewN m = wB at *
      refine takeH 17 23 (.bool true) rfl rfl (by kernel_rfl) (by kernel_rfl) (by kernel_rfl) (fun _ _ _ h => h) (Or.inl ⟨by rfl, fun W hSW => by obtain ⟨b0, b1, b2⟩ := hSW; go_simp⟩) hS2 ?_
      simp only [Act.put, List.setIfInBounds_toArray, List.set_cons_zero, List.set_cons_succ]
      refine wpAnyH_done (by kernel_rfl) ?_ _
      refine justN_n ?_
      clear hS0 hS2 PS HGV
      go_wp2_with fail
      go_roundg (N - (j + 1))
      case measure => omega
      case rel => exact ⟨j + 1, rfl, by go_num, by omega, rfl, K.out.trans KB.out⟩
    · have hjN : j = N := by omega
      subst hjN
      have K5 : Hid (Kept Nil w wr) := Y3.out.trans K.out
      have F := hid (known_rd wr (HT.out.keptN K5.out))
      go_wp2_with fail
      refine (F.out).mono ?_
      rintro e' w9 ⟨rfl, k9⟩
      have K9 : Hid (Kept Nil w w9) := K5.out.trans k9
      clear F k9 K5
      go_wp2_with fail
      go_ret
      exact ⟨rfl, K9.out⟩
end Go.Proofs.YtnbfddjaonlmaaaGreatDoor
