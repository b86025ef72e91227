/- The program: Pattern.Names: a range over a map, in whatever order. -/
import Derived.Test.YtagehbmipookbaaGreatDoorNm
import Derived.Maps.RangeWalk
import Derived.Deep.OwnRows
namespace Go.Proofs.YtagehbmipookbaaGreatDoor
open Go.RowKit Go.Maps
set_option linter.unusedVariables false
set_option maxRecDepth 100000

theorem Tryz.lawS : Keyed Tryz.prog 9 := string_keyed Tryz.underlying9
theorem keyOf_string_inv {key : Value} {kl : Lit} (h : keyOf Tryz.prog 9 key = some kl) : ∃ x, key = .string x ∧ kl = .string x.data.toList := by
  cases key <;> simp [keyOf, Tryz.underlying9, mapKey] at h
  rename_i x
  exact ⟨x, rfl, h.2.symm⟩

def strs (l : List (List UInt8)) : Array Value := (l.map fun x => Value.string ⟨x.toArray⟩).toArray

theorem strs_set {st : RS} (hp : st.names.Pairwise (fun p q => p.1 ≠ q.1 ∧ p.2 ≠ q.2)) {left : List UInt8 → Bool} {x : List UInt8} {c : Nat} (hm : (x, c) ∈ st.names) (hc : 1 ≤ c) (hg : c ≤ st.groups) :
    (strs (nameList st left)).setIfInBounds (c - 1) (.string ⟨x.toArray⟩) = strs (nameList st (fun z => left z && !(z == x))) := by
  apply Array.ext_getElem?
  intro j
  have hlen : ∀ L, (strs (nameList st L)).size = st.groups := fun L => by simp [strs, nameList_length]
  by_cases hj : j < st.groups
  · have e : ∀ L, (strs (nameList st L))[j]? = some (.string ⟨(nameAt st.names L j).toArray⟩) := fun L => by
      unfold strs
      rw [List.getElem?_toArray, List.getElem?_map, nameList_get st L j hj]
      rfl
    rw [e, Array.getElem?_setIfInBounds]
    by_cases h : c - 1 = j
    · subst h
      rw [if_pos rfl, if_pos (by rw [hlen]; exact hj), nameAt_hit hp hm hc]
    · rw [if_neg h, e, nameAt_other hp hm (by omega)]
  · rw [Array.getElem?_eq_none (by rw [Array.size_setIfInBounds, hlen]; omega), Array.getElem?_eq_none (by rw [hlen]; omega)]

theorem made_strs (n : Nat) (st : RS) (hn : st.groups = n) (left : List UInt8 → Bool) (h : ∀ p ∈ st.names, left p.1 = true) : madeCells #[.string ⟨#[]⟩] n = strs (nameList st left) := by
  have e : nameList st left = List.replicate n [] := by
    unfold nameList
    rw [hn]
    apply List.ext_getElem?
    intro j
    by_cases hj : j < n
    · rw [List.getElem?_map, List.getElem?_range hj, List.getElem?_replicate, if_pos hj]
      exact congrArg some (nameAt_start st.names left h j)
    · rw [List.getElem?_eq_none (by simp; omega), List.getElem?_eq_none (by simp; omega)]
  rw [e]
  unfold strs
  apply Array.ext_getElem?
  intro j
  by_cases hj : j < n
  · have e1 : (madeCells #[.string ⟨#[]⟩] n)[j]? = some (.string ⟨#[]⟩) := by unfold madeCells; simp [hj, Nat.mod_one]
    have e2 : (List.map (fun x : List UInt8 => Value.string ⟨x.toArray⟩) (List.replicate n [])).toArray[j]? = some (.string ⟨#[]⟩) := by simp [hj]
    rw [e1, e2]
  · rw [Array.getElem?_eq_none (by rw [size_madeCells]; omega), Array.getElem?_eq_none (by simp; omega)]

set_option maxRecDepth 100000 in
theorem names_any {w : World} {q : Nv} {st : RS} {bn : Nat} {D : DataW Unit} (hown : w.ownsMap Tryz.prog 9 (plainElem (H := Unit) Tryz.prog 3) bn (Maps.size D) D) (hN : NMap D st.names) (hnum : Nums st) (hg : st.groups ≤ 300) :
    Calls Tryz.prog 25 #[patVal q st.groups (some bn)] w fun e w' => ∃ lb, e = .returned (.slice (some ⟨lb, 0, none⟩) st.groups st.groups) ∧ w.heap.size ≤ lb ∧ Blk w' lb (strs (nameList st (fun _ => false))) 9 ∧ Kept Nil w w' := by
  have hmk := fun w => run_make_row' (P := Tryz.prog) 26 9 (.string ⟨#[]⟩) 16 Tryz.underlying26 Tryz.infoStr rfl .i64 .i64 st.groups (by omega) (by omega) w
  have k0 : Kept Nil w ((w.alloc (.cells (patCells q st.groups (some bn)) 42)).alloc (.cells (madeCells #[.string ⟨#[]⟩] st.groups) 9)) := ((Kept.refl _ _).alloc _).alloc _
  have hown0 := ownsMap_kept hown k0 (fun h => h)
  have b0 : Blk ((w.alloc (.cells (patCells q st.groups (some bn)) 42)).alloc (.cells (madeCells #[.string ⟨#[]⟩] st.groups) 9)) (w.heap.size + 1) (madeCells #[.string ⟨#[]⟩] st.groups) 9 := Blk.new' _ _ (by rw [size_alloc1])
  simp only [patVal, patCells] at k0 hown0 b0 ⊢
  go_enter Tryz.func25, Tryz.ntmps25
  go_wp2_with (at_range; refine wpList_range_own _ rfl _ 40 rfl 9 3 Tryz.lawS Tryz.underlying40 _ bn _ D rfl hown0 ?_; intro w0 hrg0 hg0 hs0)
  rw [size_alloc1, size_alloc1] at hrg0 hs0 ⊢
  have kw0 := k0.grown hg0 (fun k hk => by simp at hk)
  have bw0 := b0.kept (S := Nil) ((Kept.refl Nil _).grown hg0 (fun k hk => by simp at hk)) (fun h => h)
  rw [made_strs st.groups st rfl (fun z => Maps.has D (.string z)) (fun p hp => by rw [hN.has]; exact List.any_eq_true.2 ⟨p, hp, by simp⟩)] at bw0
  clear hown0 b0 k0 hg0
  go_frame
  go_loopw [4, 5] (fun _ _ wr => ∃ (left : Lit → Bool) (cnt : Nat), wr.ranges Tryz.prog 9 (plainElem (H := Unit) Tryz.prog 3) bn (w.heap.size + 1 + 1) (Maps.size D) D left cnt ∧ Hid (∀ kl, left kl = true → Maps.has D kl = true) ∧ Blk wr (w.heap.size + 1) (strs (nameList st (fun z => left (.string z)))) 9 ∧ Kept Nil w wr) (fun _ _ wr => wr.rangeLeft bn (w.heap.size + 1 + 1))
  case atStart => exact ⟨_, _, hrg0, fun kl h => h, bw0, kw0⟩
  case round =>
    obtain ⟨left, cnt, hrg, HL, hB, hk⟩ := hrel
    go_wp2_with (at_next; refine wpList_next_ranges _ rfl _ rfl 9 Tryz.lawS _ (fun x : ByteArray => Value.string x) (Value.int .i64) (fun key kl hkey => by obtain ⟨x, rfl, _⟩ := keyOf_string_inv hkey; exact ⟨x, rfl⟩) (fun v y hv => by obtain ⟨c, rfl, _⟩ := plainElem_int_inv Tryz.underlying3 hv; exact ⟨c, rfl⟩) bn (w.heap.size + 1 + 1) _ D left cnt rfl hrg ?_ ?_)
    · intro _ hl0
      go_wp2_with fail
      go_ret
      refine ⟨w.heap.size + 1, rfl, by omega, ?_, hk⟩
      have e : (fun z => left (.string z)) = fun _ => false := funext fun z => hl0 _
      rw [e] at hB
      exact hB
    · intro x c kl y1 y2 w1 cnt1 hkey hlk hv hat hrg1 hlt hg1 hs1 hen
      obtain ⟨x', ex, rfl⟩ := keyOf_string_inv hkey
      cases ex
      obtain ⟨c', ec, ey, hwc⟩ := plainElem_int_inv Tryz.underlying3 hv
      cases ec
      cases ey
      have hhas := HL.out _ hlk
      rw [hN.has] at hhas
      obtain ⟨q, hq, hqx⟩ := List.any_eq_true.1 hhas
      have hqx' : q.1 = x.data.toList := by simpa using hqx
      have hval := hN.val q.1 q.2 hq
      rw [hqx', hat] at hval
      have hcq : c = (q.2 : Int) := by simpa using hval
      have hqr := hnum.1 q hq
      have hqm : (x.data.toList, q.2) ∈ st.names := by rw [← hqx']; exact hq
      obtain ⟨cn, hcn⟩ : ∃ cn, cn = q.2 := ⟨_, rfl⟩
      rw [← hcn] at hcq hqr hqm
      subst hcq
      clear hval hqx hqx' hq hhas hcn hat hv hkey
      have B1 := hB.kept (S := fun i => i = w.heap.size + 1 + 1) ((Kept.refl _ _).grown hg1 (fun k hk => by simp at hk; exact Or.inl hk.symm)) (by omega)
      have k1 : Kept Nil w w1 := hk.grown hg1 (fun k hk' => by simp at hk'; exact Or.inr (by omega))
      have hx : x = ⟨x.data.toList.toArray⟩ := by cases x; simp
      have hset := strs_set hnum.2 (left := fun z => left (.string z)) hqm hqr.1 hqr.2
      rw [← hx] at hset
      obtain ⟨m, rfl⟩ : ∃ m, cn = m + 1 := ⟨cn - 1, by omega⟩
      rw [Nat.add_sub_cancel] at hset
      have B2 := B1.setCell m (.string x)
      rw [hset] at B2
      have cst : w1.cell? ⟨w.heap.size + 1, m, none⟩ = some (.string ⟨(nameAt st.names (fun z => left (.string z)) m).toArray⟩) := by
        rw [B1.cell m]
        unfold strs
        rw [List.getElem?_toArray, List.getElem?_map, nameList_get st _ m (by omega)]
        rfl
      have fst' : w1.frozen? ⟨w.heap.size + 1, m, none⟩ = false := B1.frozen _
      have hmI : (m : Int) < (st.groups : Int) := by omega
      have hg2 : w1.grownBy (w1.setCell ⟨w.heap.size + 1, m, none⟩ (.string x)) (some (w.heap.size + 1)) := ⟨rfl, rfl, rfl, by simp [World.setCell], fun i hi hne => Below.heap_setCell w1 _ _ i (by intro e; exact hne (by rw [e]))⟩
      have hbn := hown.lt
      have hrg2 := hrg1.kept hg2 (by simp; omega) (by simp)
      have k2 : Kept Nil w (w1.setCell ⟨w.heap.size + 1, m, none⟩ (.string x)) := k1.setCell (p := ⟨w.heap.size + 1, m, none⟩) (Or.inr (by simp only; omega)) _
      clear hset hx B1 k1 hB hk
      go_wp2_with fail
      go_roundw
      case rel => exact ⟨_, cnt1, hrg2, fun kl h => HL.out kl (by simp only [Bool.and_eq_true] at h; exact h.1), B2, k2⟩
      case measure => rw [hrg2.left_eq, hrg.left_eq]; exact hlt
end Go.Proofs.YtagehbmipookbaaGreatDoor
