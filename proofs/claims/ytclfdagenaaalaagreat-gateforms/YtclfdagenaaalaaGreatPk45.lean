/-
  estuarynum.Entries: the same entries.
-/
import Derived.Test.YtclfdagenaaalaaGreatPk41
import Derived.Test.YtclfdagenaaalaaGreatPk43
import Derived.Test.YtclfdagenaaalaaGreatPk34
namespace Go.Proofs.YtclfdagenaaalaaGreat
open Go.RowKit
set_option linter.unusedVariables false
set_option maxRecDepth 100000

def entF (x : Ent) : Nat → Int := fun i => if i = 0 then x.1.1 else if i = 1 then x.1.2 else x.2 (i - 2)
theorem entA_AG (x : Ent) : (entA x).toList = (AG 76 ek (entF x)).toList := by
  apply List.ext_getElem?
  intro i
  by_cases hi : i < 76
  · rw [AG_at 76 ek _ i hi]
    unfold entA
    match i, hi with
    | 0, _ => rfl
    | 1, _ => rfl
    | i + 2, hi =>
      have h74 : i < 74 := by omega
      rw [List.getElem?_append_right (by simp)]
      simp only [List.length_cons, List.length_nil]
      rw [show i + 2 - (0 + 1 + 1) = i by omega, Array.getElem?_toList, CA_at x.2 i h74]
      unfold entF ek ck
      rw [if_neg (show ¬ i + 2 = 0 by omega), if_neg (show ¬ i + 2 = 1 by omega), show i + 2 - 2 = i by omega]
      by_cases e : i = 2
      · subst e; rfl
      · rw [if_neg e, if_neg (show ¬ i + 2 = 4 by omega)]
  · rw [List.getElem?_eq_none (by rw [Array.length_toList, entA_size]; omega), List.getElem?_eq_none (by rw [AG_len]; omega)]
theorem er_sr76 {W : World} {v : Value} {l : List Ent} (h : ER EE W v l) : SR 76 ek W v (l.map entF) := by
  obtain ⟨q, cap, g, off, h1, h2, h3, h4, h5⟩ := h.at
  refine ⟨q, cap, g, off, by rw [List.length_map]; exact h1, by rw [List.length_map]; exact h2, h3, fun h0 => (h4 (by rwa [List.length_map] at h0)).1, fun h0 => (h4 (by rwa [List.length_map] at h0)).2, ?_⟩
  intro j c hj i u hu
  rw [List.getElem?_map] at hj
  cases hx : l[j]? with
  | none => rw [hx] at hj; cases hj
  | some x =>
    rw [hx] at hj
    cases hj
    exact h5 j x hx i u (by show (entA x).toList[i]? = some u; rw [entA_AG]; exact hu)
/-- Entries that are the same: places, and cells number by number. -/
def EntQ (l m : List Ent) : Prop := l.length = m.length ∧ ∀ (j : Nat) (x y : Ent), l[j]? = some x → m[j]? = some y → x.1 = y.1 ∧ Eqv x.2 y.2
theorem entQ_eqL {l m : List Ent} (h : EntQ l m) : EqL 76 (l.map entF) (m.map entF) := by
  refine ⟨by rw [List.length_map, List.length_map]; exact h.1, fun j x y hx hy => ?_⟩
  rw [List.getElem?_map] at hx hy
  cases h1 : l[j]? with
  | none => rw [h1] at hx; cases hx
  | some a =>
    cases h2 : m[j]? with
    | none => rw [h2] at hy; cases hy
    | some b =>
      rw [h1] at hx
      rw [h2] at hy
      cases hx
      cases hy
      obtain ⟨e1, e2⟩ := h.2 j a b h1 h2
      intro i hi
      unfold entF
      rw [e1]
      split
      · rfl
      · split
        · rfl
        · exact e2 (i - 2) (by omega)
set_option maxHeartbeats 2000000 in
set_option maxRecDepth 100000 in
theorem sents_sr (v1 v2 : Value) (l m : List (Nat → Int)) (w : World) (h1 : SR 76 ek w v1 l) (h2 : SR 76 ek w v2 m) :
    Calls Tryz.prog 16 #[v1, v2] w fun r w' => BIff r (EqL 76 l m) ∧ Below w.heap.size w w' := by
  obtain ⟨q1, c1, g1, o1, rfl, hc1, hm1, hp1, hg1, hr1⟩ := h1
  obtain ⟨q2, c2, g2, o2, rfl, hc2, hm2, hp2, hg2, hr2⟩ := h2
  by_cases hl : l.length = m.length
  · generalize hn : l.length = n at *
    generalize hn2 : m.length = n2 at *
    subst hl
    have e0 : ((n : Int) != (n : Int)) = false := by simp
    go_enter Tryz.func16, Tryz.ntmps16
    go_wp2_with fail
    go_loopw [13] (fun i wr => ∃ k : Nat, k ≤ n ∧ i = .int .i64 (k : Int) ∧ EqL 76 (l.take k) (m.take k) ∧ Below w.heap.size w wr) (fun i _ => n - (intOf i).toNat)
    case atStart => exact ⟨0, by omega, rfl, by simpa using EqL.refl _ _, Below.refl _ _⟩
    case round =>
      obtain ⟨k, hk, rfl, ht, hb⟩ := hrel
      have HT : Hid (EqL 76 (l.take k) (m.take k)) := ht
      clear ht
      by_cases c : k = n
      · subst c
        have HE : Hid (BIff (.returned (.bool true)) (EqL 76 l m)) := ⟨true, rfl, by
          have := HT.out
          rw [List.take_of_length_le (by omega), List.take_of_length_le (by omega)] at this
          simp [this]⟩
        go_wp2_with fail
        go_ret
        exact ⟨HE.out, hb⟩
      · obtain ⟨x, hx⟩ : ∃ x, l[k]? = some x := ⟨l[k], List.getElem?_eq_getElem (by omega)⟩
        obtain ⟨y, hy⟩ : ∃ y, m[k]? = some y := ⟨m[k], List.getElem?_eq_getElem (by omega)⟩
        obtain rfl := hp1 (by omega)
        obtain rfl := hp2 (by omega)
        have gw1 : g1 < w.heap.size := hg1 (by omega)
        have gw2 : g2 < w.heap.size := hg2 (by omega)
        have R1 : Hid (∀ w', Below wr.heap.size wr w' → w'.rangeAt g1 (o1 + k * 76) (AG 76 ek x).toList) := fun w' hb' => range_keep (hr1 k x hx) gw1 (ab_trans hb hb')
        have R2 : Hid (∀ w', Below wr.heap.size wr w' → w'.rangeAt g2 (o2 + k * 76) (AG 76 ek y).toList) := fun w' hb' => range_keep (hr2 k y hy) gw2 (ab_trans hb hb')
        have hki : (k : Int) < (n : Int) := by omega
        have hkn : k < n := by omega
        have HN : Hid ((∀ i, i < 76 → x i = y i) → EqL 76 (l.take (k + 1)) (m.take (k + 1))) := fun e => eqL_next HT.out hx hy e
        have HE : Hid ((¬ ∀ i, i < 76 → x i = y i) → BIff (.returned (.bool false)) (EqL 76 l m)) := fun e => ⟨false, rfl, ⟨fun h => by simp at h, fun h => absurd (h.2 k x y hx hy) e⟩⟩
        clear hr1 hr2 hp1 hp2 hg1 hg2 hx hy hn hn2 gw1 gw2
        go_upto_region 6 with fail
        refine wp_region_below (by kernel_rfl) (by kernel_rfl) ?_
        have HZ := cls_some wr
        go_big_quiet_step (fail)
        go_big_quiet_step (fail)
        go_big_quiet_step (fail)
        refine quiet_val rfl _ (fun w' hw' => by obtain ⟨z, hz⟩ := hw'; exact ld_ents rfl rfl (hz ▸ R1.out _ z.prop)) ?_
        simp only [Act.put, List.setIfInBounds_toArray, List.set_cons_succ, List.set_cons_zero]
        go_big_quiet_step (fail)
        go_big_quiet_step (fail)
        go_big_quiet_step (fail)
        refine quiet_val rfl _ (fun w' hw' => by obtain ⟨z, hz⟩ := hw'; exact ld_ents rfl rfl (hz ▸ R2.out _ z.prop)) ?_
        simp only [Act.put, List.setIfInBounds_toArray, List.set_cons_succ, List.set_cons_zero]
        refine quiet_val rfl _ (fun w' _ => neqo_ents rfl rfl rfl w') ?_
        simp only [Act.put, List.setIfInBounds_toArray, List.set_cons_succ, List.set_cons_zero]
        refine wpQuiet_nil ?_
        rintro w7 ⟨⟨W7, b7⟩, e7⟩
        dsimp only at e7
        subst e7
        have hb7 := ab_trans hb b7
        cases he : eqA 76 x y with
        | true =>
          have HN' := HN.out ((eqA_iff _ _ _).1 he)
          have HN2 : Hid (EqL 76 (l.take (k + 1)) (m.take (k + 1))) := HN'
          clear HN' HN HE
          go_wp2_with fail
          exact ⟨⟨k + 1, by omega, rfl, HN2.out, hb7⟩, by simp only [intOf]; omega⟩
        | false =>
          have HE2 : Hid (BIff (.returned (.bool false)) (EqL 76 l m)) := HE.out (fun h => by rw [(eqA_iff _ _ _).2 h] at he; cases he)
          clear HN HE
          go_wp2_with fail
          go_ret
          exact ⟨HE2.out, hb7⟩
  · have HE : Hid (BIff (.returned (.bool false)) (EqL 76 l m)) := ⟨false, rfl, ⟨fun h => by simp at h, fun h => absurd h.1 hl⟩⟩
    have e0 : ((l.length : Int) != (m.length : Int)) = true := by simp; omega
    clear hl hr1 hr2 hp1 hp2 hg1 hg2
    generalize l.length = n at *
    generalize m.length = n2 at *
    go_enter Tryz.func16, Tryz.ntmps16
    go_wp2_with fail
    go_ret
    exact ⟨HE.out, Below.refl _ _⟩
theorem sents_yes (v1 v2 : Value) (l m : List Ent) (w : World) (h1 : ER EE w v1 l) (h2 : ER EE w v2 m) (h : EntQ l m) :
    Calls Tryz.prog 16 #[v1, v2] w fun r w' => r = .returned (.bool true) ∧ Below w.heap.size w w' := by
  refine (sents_sr v1 v2 _ _ w (er_sr76 h1) (er_sr76 h2)).mono ?_
  rintro r w' ⟨⟨b, rfl, hb⟩, hw⟩
  rw [hb.2 (entQ_eqL h)]
  exact ⟨rfl, hw⟩
end Go.Proofs.YtclfdagenaaalaaGreat
