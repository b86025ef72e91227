/- Choice: of words with a bar between them the first that stands there counts. -/
import Derived.Test.YtnbfddjaonlmaaaGreatDoorP42
import Derived.Test.YtnbfddjaonlmaaaGreatDoorP41
import Derived.Test.YtnbfddjaonlmaaaGreatDoorP33
namespace Go.Proofs.YtnbfddjaonlmaaaGreatDoor
open Go.RowKit Go.Maps
set_option linter.unusedVariables false
set_option maxRecDepth 100000

def ChW (wb : Nat) (w0 w1 w2 : ByteArray) (W : World) : Prop := W.cell? ⟨wb, 0, none⟩ = some (.string w0) ∧ W.cell? ⟨wb, 1, none⟩ = some (.string w1) ∧ W.cell? ⟨wb, 2, none⟩ = some (.string w2)
theorem app_list (s t : ByteArray) : (s ++ t).data.toList = s.data.toList ++ t.data.toList := by simp [ByteArray.data_append]
theorem ch_pat {q0 q1 q2 w0 w1 w2 : ByteArray} (h0 : q0.data.toList = quoL w0.data.toList) (h1 : q1.data.toList = quoL w1.data.toList) (h2 : q2.data.toList = quoL w2.data.toList) : (q0 ++ (⟨#[124]⟩ : ByteArray) ++ q1 ++ (⟨#[124]⟩ : ByteArray) ++ q2).data.toList = chPat w0.data.toList w1.data.toList w2.data.toList := by
  simp only [app_list, h0, h1, h2]
  unfold chPat
  simp
theorem chLet_asc {s : ByteArray} (h : ∀ b ∈ s.data.toList, b ∈ chLet) : Asc s := fun b hb => by
  have hm : b = 97 ∨ b = 98 ∨ b = 46 ∨ b = 42 ∨ b = 40 := by simpa [chLet] using h b hb
  rcases hm with rfl | rfl | rfl | rfl | rfl <;> decide
theorem quo_len (l : List UInt8) : (quoL l).length ≤ 2 * l.length := by
  induction l with
  | nil => simp [quoL]
  | cons x l ih =>
    have e : quoL (x :: l) = qOf x ++ quoL l := by unfold quoL; rw [List.flatMap_cons]
    rw [e, List.length_append, List.length_cons]
    have : (qOf x).length ≤ 2 := by unfold qOf; split <;> simp
    omega
theorem quo_size {q x : ByteArray} (h : q.data.toList = quoL x.data.toList) (hx : x.size ≤ 10) : q.size ≤ 20 := by
  have e : q.size = q.data.toList.length := by simp
  have e2 : x.size = x.data.toList.length := by simp
  have := quo_len x.data.toList
  rw [e, h]
  omega
/-- what is said of a word -/
def WdOk (x : ByteArray) : Prop := x.size ≤ 10 ∧ 0 < x.size ∧ ∀ b ∈ x.data.toList, b ∈ chLet
theorem WdOk.list {x : ByteArray} (h : WdOk x) : x.data.toList.length ≤ 10 ∧ x.data.toList ≠ [] := by
  have e : x.data.toList.length = x.size := by simp
  have h1 := h.1
  have h2 := h.2.1
  refine ⟨by omega, fun h0 => ?_⟩
  rw [h0] at e
  have e2 : 0 = x.size := e
  omega
theorem wd_ahead {s : ByteArray} (b : UInt8) (hb : b ∈ chLet) (hs : s.size ≤ 6) (h : ∀ c ∈ s.data.toList, c ∈ chLet) : WdOk ((⟨#[b]⟩ : ByteArray) ++ s) := by
  have e : ((⟨#[b]⟩ : ByteArray) ++ s).size = 1 + s.size := by rw [ByteArray.size_append]; rfl
  refine ⟨by omega, by omega, fun c hc => ?_⟩
  rw [app_list] at hc
  rcases List.mem_append.1 hc with hc | hc
  · simp at hc; subst hc; exact hb
  · exact h c hc
theorem wd_behind {s : ByteArray} (b : UInt8) (hb : b ∈ chLet) (hs : s.size ≤ 6) (h : ∀ c ∈ s.data.toList, c ∈ chLet) : WdOk (s ++ (⟨#[b]⟩ : ByteArray)) := by
  have e : (s ++ (⟨#[b]⟩ : ByteArray)).size = s.size + 1 := app_size s b
  refine ⟨by omega, by omega, fun c hc => ?_⟩
  rw [app_list] at hc
  rcases List.mem_append.1 hc with hc | hc
  · exact h c hc
  · simp at hc; subst hc; exact hb
set_option maxHeartbeats 16000000 in
theorem choice_walk {w : World} {v0 v1 v2 v3 : Value} {z0 z1 z2 z3 : List Int} (h0 : RawAt w v0 z0) (h1 : RawAt w v1 z1) (h2 : RawAt w v2 z2) (h3 : RawAt w v3 z3) (l0 : z0.length ≤ 10000000) (l1 : z1.length ≤ 10000000) (l2 : z2.length ≤ 10000000) (l3 : z3.length ≤ 10000000) (hT : Tabs w) :
    Calls Tryz.prog 3 #[v0, v1, v2, v3] w fun e w' => e = .returned (.bool true) ∧ Kept Nil w w' := by
  have HT := hid hT
  have C0 := hid (cut_rd 6 h0 l0 (by decide))
  have C1 := hid (cut_rd 6 h1 l1 (by decide))
  have C2 := hid (cut_rd 3 h2 l2 (by decide))
  have L3 := hid h3
  clear hT h0 h1 h2 h3
  go_enter Tryz.func3, Tryz.ntmps3
  go_wp2_with fail
  refine (C0.out).mono ?_
  rintro e wr ⟨⟨va, rfl, ha⟩, rfl⟩
  have F := hid (letters_rd (of := ⟨#[97, 98, 46, 42, 40]⟩) ha (by simp; omega) (by decide) (by decide))
  have t0 : (z0.take 6).length ≤ 6 := by simp; omega
  clear C0 ha
  go_wp2_with fail
  refine (F.out).mono ?_
  rintro e wr ⟨⟨s0, rfl, hz0, hc0⟩, rfl⟩
  have W0 : Hid (WdOk ((⟨#[97]⟩ : ByteArray) ++ s0)) := wd_ahead 97 (by decide) (by omega) hc0
  have y0 : s0.size ≤ 6 := by omega
  clear F hz0 hc0 t0
  go_wp2_with fail
  refine (C1.out).mono ?_
  rintro e wr ⟨⟨vb, rfl, ha⟩, rfl⟩
  have F := hid (letters_rd (of := ⟨#[97, 98, 46, 42, 40]⟩) ha (by simp; omega) (by decide) (by decide))
  have t0 : (z1.take 6).length ≤ 6 := by simp; omega
  clear C1 ha
  go_wp2_with fail
  refine (F.out).mono ?_
  rintro e wr ⟨⟨s1, rfl, hz1, hc1⟩, rfl⟩
  have W1 : Hid (WdOk (s1 ++ (⟨#[98]⟩ : ByteArray))) := wd_behind 98 (by decide) (by omega) hc1
  have y1 : s1.size ≤ 6 := by omega
  clear F hz1 hc1 t0
  go_wp2_with fail
  refine (C2.out).mono ?_
  rintro e wr ⟨⟨vc, rfl, ha⟩, rfl⟩
  have F := hid (letters_rd (of := ⟨#[97, 98, 46, 42, 40]⟩) ha (by simp; omega) (by decide) (by decide))
  have t0 : (z2.take 3).length ≤ 3 := by simp; omega
  clear C2 ha
  go_wp2_with fail
  refine (F.out).mono ?_
  rintro e wr ⟨⟨s2, rfl, hz2, hc2⟩, rfl⟩
  have W2 : Hid (WdOk ((⟨#[46]⟩ : ByteArray) ++ s2)) := wd_ahead 46 (by decide) (by omega) hc2
  have y2 : s2.size ≤ 3 := by omega
  clear F hz2 hc2 t0
  go_wp2_with fail
  generalize ((⟨#[97]⟩ : ByteArray) ++ s0) = x0 at *
  generalize (s1 ++ (⟨#[98]⟩ : ByteArray)) = x1 at *
  generalize ((⟨#[46]⟩ : ByteArray) ++ s2) = x2 at *
  clear y0 y1 y2
  have KA : Hid (Kept Nil wr (wr.alloc (.cells #[.string x0, .string x1, .string x2] 9))) := (Kept.refl Nil wr).alloc _
  have BA := hid (Blk.new wr #[.string x0, .string x1, .string x2] 9)
  have F := hid (letters_rd (of := ⟨#[97, 98, 46, 42, 40]⟩) (L3.out.kept KA.out) l3 (by decide) (by decide))
  clear L3
  refine (F.out).mono ?_
  rintro e w1 ⟨⟨s, rfl, hsz, hsl⟩, hw1⟩
  have hs : s.size ≤ 10000000 := by omega
  have HA : Hid (∀ b ∈ s.data.toList, b ∈ chLet) := hsl
  have hsw : (wr.alloc (.cells #[.string x0, .string x1, .string x2] 9)).heap.size = wr.heap.size + 1 := size_alloc1 _ _
  rw [← hw1] at KA BA hsw
  clear F hsl hsz hw1
  have PS : Hid (∀ W, Kept Nil w1 W → ChW wr.heap.size x0 x1 x2 W) := fun W k => by
    have b := BA.out.kept k (fun h => h)
    exact ⟨b.cell 0, b.cell 1, b.cell 2⟩
  go_wp2_with fail
  have hbar : (⟨#[124]⟩ : ByteArray).size = 1 := rfl
  have hS0 := PS.out w1.drew (Kept.refl Nil w1).drew
  have Q0 := hid (quoted_rd x0 w1.drew (by have := W0.out.1; omega))
  have Q1 := hid (quoted_rd x1 w1.drew (by have := W1.out.1; omega))
  have Q2 := hid (quoted_rd x2 w1.drew (by have := W2.out.1; omega))
  refine wp_just (wp_region_any (by kernel_rfl) (wpAny_of_held (S := ChW wr.heap.size x0 x1 x2) _ _ _ _ ?_))
  refine takeH 0 30 (.slice (some ⟨wr.heap.size, 0, none⟩) 3 3) rfl rfl (by kernel_rfl) (by kernel_rfl) (by kernel_rfl) (fun _ _ _ h => h) (Or.inl ⟨by rfl, fun W hSW => by obtain ⟨c0, c1, c2⟩ := hSW; go_simp⟩) hS0 ?_
  refine takeH 1 31 (.pointer (some ⟨wr.heap.size, 0, none⟩)) rfl rfl (by kernel_rfl) (by kernel_rfl) (by kernel_rfl) (fun _ _ _ h => h) (Or.inl ⟨by rfl, fun W hSW => by obtain ⟨c0, c1, c2⟩ := hSW; go_simp⟩) hS0 ?_
  refine takeH 2 32 (.string x0) rfl rfl (by kernel_rfl) (by kernel_rfl) (by kernel_rfl) (fun _ _ _ h => h) (Or.inl ⟨by rfl, fun W hSW => by obtain ⟨c0, c1, c2⟩ := hSW; go_simp⟩) hS0 ?_
  refine takeH 5 35 (.slice (some ⟨wr.heap.size, 0, none⟩) 3 3) rfl rfl (by kernel_rfl) (by kernel_rfl) (by kernel_rfl) (fun _ _ _ h => h) (Or.inl ⟨by rfl, fun W hSW => by obtain ⟨c0, c1, c2⟩ := hSW; go_simp⟩) hS0 ?_
  refine takeH 6 36 (.pointer (some ⟨wr.heap.size, 1, none⟩)) rfl rfl (by kernel_rfl) (by kernel_rfl) (by kernel_rfl) (fun _ _ _ h => h) (Or.inl ⟨by rfl, fun W hSW => by obtain ⟨c0, c1, c2⟩ := hSW; go_simp⟩) hS0 ?_
  refine takeH 7 37 (.string x1) rfl rfl (by kernel_rfl) (by kernel_rfl) (by kernel_rfl) (fun _ _ _ h => h) (Or.inl ⟨by rfl, fun W hSW => by obtain ⟨c0, c1, c2⟩ := hSW; go_simp⟩) hS0 ?_
  refine takeH 11 41 (.slice (some ⟨wr.heap.size, 0, none⟩) 3 3) rfl rfl (by kernel_rfl) (by kernel_rfl) (by kernel_rfl) (fun _ _ _ h => h) (Or.inl ⟨by rfl, fun W hSW => by obtain ⟨c0, c1, c2⟩ := hSW; go_simp⟩) hS0 ?_
  refine takeH 12 42 (.pointer (some ⟨wr.heap.size, 2, none⟩)) rfl rfl (by kernel_rfl) (by kernel_rfl) (by kernel_rfl) (fun _ _ _ h => h) (Or.inl ⟨by rfl, fun W hSW => by obtain ⟨c0, c1, c2⟩ := hSW; go_simp⟩) hS0 ?_
  refine takeH 13 43 (.string x2) rfl rfl (by kernel_rfl) (by kernel_rfl) (by kernel_rfl) (fun _ _ _ h => h) (Or.inl ⟨by rfl, fun W hSW => by obtain ⟨c0, c1, c2⟩ := hSW; go_simp⟩) hS0 ?_
  refine takeH 16 46 (.string s) rfl rfl (by kernel_rfl) (by kernel_rfl) (by kernel_rfl) (fun _ _ _ h => h) (Or.inl ⟨by rfl, fun W hSW => by obtain ⟨c0, c1, c2⟩ := hSW; go_simp⟩) hS0 ?_
  simp only [Act.put, List.setIfInBounds_toArray, List.set_cons_zero, List.set_cons_succ]
  refine wpAnyH_ready (rs := [3]) (by kernel_rfl) (by simp) (AllReadyH.cons rfl (fun K hK => ?_) AllReadyH.nil)
  go_simp
  refine (Q0.out).mono ?_
  rintro e w2 ⟨⟨q0, rfl, hq0⟩, rfl⟩
  have hz0 := quo_size hq0 W0.out.1
  have HQ0 := hid hq0
  clear hq0 Q0
  dsimp only
  refine hK.out _ _ hS0 (fun _ => ?_)
  clear hK K
  refine takeH 4 34 (.string (q0 ++ (⟨#[124]⟩ : ByteArray))) rfl rfl (by kernel_rfl) (by kernel_rfl) (by kernel_rfl) (fun _ _ _ h => h) (Or.inl ⟨by rfl, fun W hSW => by obtain ⟨c0, c1, c2⟩ := hSW; go_simp; first | omega | (simp only [ByteArray.size_append, hbar]; omega)⟩) hS0 ?_
  simp only [Act.put, List.setIfInBounds_toArray, List.set_cons_zero, List.set_cons_succ]
  refine wpAnyH_ready (rs := [8]) (by kernel_rfl) (by simp) (AllReadyH.cons rfl (fun K hK => ?_) AllReadyH.nil)
  go_simp
  refine (Q1.out).mono ?_
  rintro e w2 ⟨⟨q1, rfl, hq1⟩, rfl⟩
  have hz1 := quo_size hq1 W1.out.1
  have HQ1 := hid hq1
  clear hq1 Q1
  dsimp only
  refine hK.out _ _ hS0 (fun _ => ?_)
  clear hK K
  refine takeH 9 39 (.string (q0 ++ (⟨#[124]⟩ : ByteArray) ++ q1)) rfl rfl (by kernel_rfl) (by kernel_rfl) (by kernel_rfl) (fun _ _ _ h => h) (Or.inl ⟨by rfl, fun W hSW => by obtain ⟨c0, c1, c2⟩ := hSW; go_simp; first | omega | (simp only [ByteArray.size_append, hbar]; omega)⟩) hS0 ?_
  refine takeH 10 40 (.string (q0 ++ (⟨#[124]⟩ : ByteArray) ++ q1 ++ (⟨#[124]⟩ : ByteArray))) rfl rfl (by kernel_rfl) (by kernel_rfl) (by kernel_rfl) (fun _ _ _ h => h) (Or.inl ⟨by rfl, fun W hSW => by obtain ⟨c0, c1, c2⟩ := hSW; go_simp; first | omega | (simp only [ByteArray.size_append, hbar]; omega)⟩) hS0 ?_
  simp only [Act.put, List.setIfInBounds_toArray, List.set_cons_zero, List.set_cons_succ]
  refine wpAnyH_ready (rs := [14]) (by kernel_rfl) (by simp) (AllReadyH.cons rfl (fun K hK => ?_) AllReadyH.nil)
  go_simp
  refine (Q2.out).mono ?_
  rintro e w2 ⟨⟨q2, rfl, hq2⟩, rfl⟩
  have hz2 := quo_size hq2 W2.out.1
  have HQ2 := hid hq2
  clear hq2 Q2
  dsimp only
  refine hK.out _ _ hS0 (fun _ => ?_)
  clear hK K
  refine takeH 15 45 (.string (q0 ++ (⟨#[124]⟩ : ByteArray) ++ q1 ++ (⟨#[124]⟩ : ByteArray) ++ q2)) rfl rfl (by kernel_rfl) (by kernel_rfl) (by kernel_rfl) (fun _ _ _ h => h) (Or.inl ⟨by rfl, fun W hSW => by obtain ⟨c0, c1, c2⟩ := hSW; go_simp; first | omega | (simp only [ByteArray.size_append, hbar]; omega)⟩) hS0 ?_
  have HP := hid (ch_pat HQ0.out HQ1.out HQ2.out)
  generalize (q0 ++ (⟨#[124]⟩ : ByteArray) ++ q1 ++ (⟨#[124]⟩ : ByteArray) ++ q2) = p at *
  obtain ⟨hp1, hp2, hp3, hp4⟩ := find_ch (chLet_asc HA.out) HP.out W0.out.2.2 W1.out.2.2 W2.out.2.2 W0.out.list.1 W1.out.list.1 W2.out.list.1 W0.out.list.2 W1.out.list.2 W2.out.list.2
  have FD := hid (find_rd p s w1.drew (by unfold maxLen; omega) hs ((HT.out.keptN KA.out).keptN (Kept.refl Nil w1).drew))
  simp only [Act.put, List.setIfInBounds_toArray, List.set_cons_zero, List.set_cons_succ]
  refine wpAnyH_ready (rs := [17]) (by kernel_rfl) (by simp) (AllReadyH.cons rfl (fun K hK => ?_) AllReadyH.nil)
  go_simp
  refine (FD.out).mono ?_
  rintro e w2 ⟨k2, h⟩
  clear FD
  rw [hp2, hp3, hp4] at h
  rcases h with ⟨h, _⟩ | ⟨_, va', l, rfl, hE, hl⟩
  · exact absurd rfl h
  have hl' : l.map (·.1) = (goF s.size (hitJ x0 x1 x2 s 0) 0).map fun q => (⟨q.1, q.2, []⟩ : Ev) := hl
  obtain ⟨GV, hE1⟩ := hE.plain rfl (chLet_asc HA.out) hl' (goK_in s.size (hitJ x0 x1 x2 s 0) (fun i hi => hitJ_le x0 x1 x2 s 0 i hi) _ _)
  have E1 := hid hE1
  have K2 : Hid (Kept Nil w1 w2) := (Kept.refl Nil w1).drew.trans k2
  have hS2 := PS.out _ K2.out
  have HN : Hid ((goF s.size (hitJ x0 x1 x2 s 0) 0).length ≤ 100000000) := by have := goK_few s.size (hitJ x0 x1 x2 s 0) (s.size - 0) 0; show (goK s.size (hitJ x0 x1 x2 s 0) (s.size - 0) 0).length ≤ _; omega
  clear hE hl hl' hE1 k2 l hp1 hp2 hp3 hp4
  dsimp only
  refine hK.out _ _ hS2 (fun _ => ?_)
  clear hK K
  refine takeH 18 29 (.tuple #[va', .int .i64 0]) rfl rfl (by kernel_rfl) (by kernel_rfl) (by kernel_rfl) (fun _ _ _ h => h) (Or.inl ⟨by rfl, fun W hSW => by obtain ⟨c0, c1, c2⟩ := hSW; go_simp⟩) hS2 ?_
  refine takeH 19 48 (va') rfl rfl (by kernel_rfl) (by kernel_rfl) (by kernel_rfl) (fun _ _ _ h => h) (Or.inl ⟨by rfl, fun W hSW => by obtain ⟨c0, c1, c2⟩ := hSW; go_simp⟩) hS2 ?_
  refine takeH 20 49 (.int .i64 0) rfl rfl (by kernel_rfl) (by kernel_rfl) (by kernel_rfl) (fun _ _ _ h => h) (Or.inl ⟨by rfl, fun W hSW => by obtain ⟨c0, c1, c2⟩ := hSW; go_simp⟩) hS2 ?_
  refine takeH 21 11 (va') rfl rfl (by kernel_rfl) (by kernel_rfl) (by kernel_rfl) (fun _ _ _ h => h) (Or.inl ⟨by rfl, fun W hSW => by obtain ⟨c0, c1, c2⟩ := hSW; go_simp⟩) hS2 ?_
  refine takeH 22 12 (.int .i64 0) rfl rfl (by kernel_rfl) (by kernel_rfl) (by kernel_rfl) (fun _ _ _ h => h) (Or.inl ⟨by rfl, fun W hSW => by obtain ⟨c0, c1, c2⟩ := hSW; go_simp⟩) hS2 ?_
  simp only [Act.put, List.setIfInBounds_toArray, List.set_cons_zero, List.set_cons_succ]
  refine wpAnyH_done (by kernel_rfl) ?_ _
  refine justN_n ?_
  clear hS0 hS2 HQ0 HQ1 HQ2 hz0 hz1 hz2 PS hsw HP
  have F := hid (kchoice_rd x0 x1 x2 s (BA.out.kept K2.out (fun h => h)) hs (fun x hx => by
    simp only [List.mem_cons, List.not_mem_nil, or_false] at hx
    rcases hx with rfl | rfl | rfl
    · exact ⟨by have := W0.out.1; omega, W0.out.2.1⟩
    · exact ⟨by have := W1.out.1; omega, W1.out.2.1⟩
    · exact ⟨by have := W2.out.1; omega, W2.out.2.1⟩))
  go_wp2_with fail
  refine (F.out).mono ?_
  rintro e w3 ⟨vw, rfl, hP, k3⟩
  have F2 := hid (same_rd false (E1.out.kept k3) hP.evW HN.out (fun h => by cases h))
  have K3 : Hid (Kept Nil wr w3) := (KA.out.trans K2.out).trans k3
  clear F hP k3 E1 HN K2 KA
  go_wp2_with fail
  refine (F2.out).mono ?_
  rintro e w4 ⟨rfl, k4⟩
  have K4 : Hid (Kept Nil wr w4) := K3.out.trans k4
  clear F2 k4 K3
  go_wp2_with fail
  go_ret
  exact ⟨rfl, K4.out⟩
end Go.Proofs.YtnbfddjaonlmaaaGreatDoor
