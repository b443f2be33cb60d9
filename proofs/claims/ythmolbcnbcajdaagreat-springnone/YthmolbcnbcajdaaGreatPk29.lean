/-
  stream's since and Replay.
  stream's Replay.
  The chapter's example: estuarylaw14.alive.
-/
import Derived.Test.YthmolbcnbcajdaaGreatPk27
import Derived.Lib.MinMax
import Derived.Test.YthmolbcnbcajdaaGreatPk26
namespace Go.Proofs.YthmolbcnbcajdaaGreat
open Go.RowKit
set_option linter.unusedVariables false
set_option maxRecDepth 100000

/-- An operation among others, by its number. -/
def insO (l : List Op5) (o : Op5) : List Op5 := l.filter (fun x => decide (x.s < o.s)) ++ o :: l.filter (fun x => decide (o.s ≤ x.s))
def allS (S : Sm) : List Op5 := if mkd S = true then insO S.ho S.mr else S.ho
def sinL (S : Sm) (fr : Int) : List Op5 := (allS S).filter fun o => decide (fr ≤ o.s)
def repK (S : Sm) (fr most : Int) : Nat := min (max most 0).toNat (sinL S fr).length
def repL (S : Sm) (fr most : Int) : List Op5 := (sinL S fr).take (repK S fr most)
def repN (S : Sm) (fr most : Int) : Int := if repK S fr most < (sinL S fr).length then (if repK S fr most = 0 then min (wrap64 (fr - 1)) (S.nx - 1) else ((sinL S fr).getD (repK S fr most - 1) zOp).s) else S.nx - 1
theorem fnd_cut {l : List Op5} {sq : Int} {i : Nat} (h : FndP l sq i) : l.filter (fun x => decide (x.s < sq)) = l.take i ∧ l.filter (fun x => decide (sq ≤ x.s)) = l.drop i := by
  have h1 : ∀ x ∈ l.take i, x.s < sq := fun x hx => by
    obtain ⟨j, hj⟩ := List.mem_iff_getElem?.1 hx
    rw [List.getElem?_take] at hj
    split at hj
    · exact h.lo j x hj (by assumption)
    · cases hj
  have h2 : ∀ x ∈ l.drop i, sq ≤ x.s := fun x hx => by
    obtain ⟨j, hj⟩ := List.mem_iff_getElem?.1 hx
    rw [List.getElem?_drop] at hj
    exact h.hi _ x hj (by omega)
  have e : l = l.take i ++ l.drop i := (List.take_append_drop i l).symm
  constructor
  · conv => lhs; rw [e]
    rw [List.filter_append, List.filter_eq_self.2 (fun x hx => decide_eq_true (h1 x hx)), List.filter_eq_nil_iff.2 (fun x hx => by have := h2 x hx; simp; omega), List.append_nil]
  · conv => lhs; rw [e]
    rw [List.filter_append, List.filter_eq_self.2 (fun x hx => decide_eq_true (h2 x hx)), List.filter_eq_nil_iff.2 (fun x hx => by have := h1 x hx; simp; omega), List.nil_append]
theorem insO_end {l : List Op5} {o : Op5} (h : ∀ x ∈ l, x.s < o.s) : insO l o = l ++ [o] := by
  unfold insO
  rw [List.filter_eq_self.2 (fun x hx => decide_eq_true (h x hx)), List.filter_eq_nil_iff.2 (fun x hx => by have := h x hx; simp; omega)]
theorem insO_mem {l : List Op5} {o x : Op5} : x ∈ insO l o ↔ x ∈ l ∨ x = o := by
  unfold insO
  simp only [List.mem_append, List.mem_cons, List.mem_filter, decide_eq_true_eq]
  constructor
  · rintro (⟨h, _⟩ | h | ⟨h, _⟩)
    · exact .inl h
    · exact .inr h
    · exact .inl h
  · rintro (h | h)
    · rcases Int.lt_or_le x.s o.s with c | c
      · exact .inl ⟨h, c⟩
      · exact .inr (.inr ⟨h, c⟩)
    · exact .inr (.inl h)
theorem insO_srt {l : List Op5} {o : Op5} (h : l.Pairwise fun a b => a.s < b.s) (hn : ∀ x ∈ l, x.s ≠ o.s) : (insO l o).Pairwise fun a b => a.s < b.s := by
  unfold insO
  refine List.pairwise_append.2 ⟨h.filter _, List.pairwise_cons.2 ⟨fun x hx => ?_, h.filter _⟩, fun a ha b hb => ?_⟩
  · obtain ⟨h1, h2⟩ := List.mem_filter.1 hx
    have := of_decide_eq_true h2
    have := hn x h1
    omega
  · obtain ⟨h1, h2⟩ := List.mem_filter.1 ha
    have h3 := of_decide_eq_true h2
    rcases List.mem_cons.1 hb with rfl | hb
    · exact h3
    · obtain ⟨h4, h5⟩ := List.mem_filter.1 hb
      have := of_decide_eq_true h5
      omega
theorem insO_len {l : List Op5} {o : Op5} : (insO l o).length = l.length + 1 := by
  have h : ∀ l : List Op5, (l.filter (fun x => decide (x.s < o.s))).length + (l.filter (fun x => decide (o.s ≤ x.s))).length = l.length := by
    intro l
    induction l with
    | nil => rfl
    | cons x r ih =>
      rcases Int.lt_or_le x.s o.s with c | c
      · have d : ¬ (o.s ≤ x.s) := by omega
        simp only [List.filter_cons, c, d, decide_true, decide_false, if_true, List.length_cons]
        simp only [Bool.false_eq_true, if_false]
        omega
      · have d : ¬ (x.s < o.s) := by omega
        simp only [List.filter_cons, c, d, decide_true, decide_false, if_true, List.length_cons]
        simp only [Bool.false_eq_true, if_false]
        omega
  unfold insO
  rw [List.length_append, List.length_cons]
  have := h l
  omega
theorem allS_srt {S : Sm} (h : Oks S) : (allS S).Pairwise fun a b => a.s < b.s := by
  unfold allS
  split
  · exact insO_srt h.srt h.mne
  · exact h.srt
theorem allS_len {S : Sm} (h : Oks S) : (allS S).length ≤ 100001 := by
  have := h.len
  unfold allS
  split
  · rw [insO_len]; omega
  · omega
/-- What insert answers. -/
def InsC (l : List Op5) (o : Op5) : Prop := ∀ (v : Value) (B : Nat) (w : World), EO E5 30 w B v l → B ≤ w.heap.size →
  Calls Tryz.prog 74 #[v, opV o] w fun e w' => ∃ v', e = .returned v' ∧ EO E5 30 w' B v' (insO l o) ∧ Frm (fun k => v.ownBlock = some k) w w' ∧ ∀ r, v'.ownBlock = some r → v.ownBlock = some r ∨ w.heap.size ≤ r
theorem insC_end {l : List Op5} {o : Op5} (hl : l.length ≤ 100000) (hs : l.Pairwise fun a b => a.s < b.s) (hlt : ∀ x ∈ l, x.s < o.s) : InsC l o := fun v B w hO hB => by
  rw [insO_end hlt]
  exact sinsert_any l o v B w hO hl hs hlt hB
section
variable {α : Type} {E : En α} {W : World} {q : Option Addr} {n cap : Nat} {l : List α}
/-- 'x[i:]' of a slice that is read. -/
theorem ER.drop (h : ER E W (.slice q n cap) l) {i : Nat} (hi : i ≤ n) : ER E W (sliced q i n cap E.k) (l.drop i) := by
  obtain ⟨q', cap', g, off, h1, h2, h3, h4, h5⟩ := h
  cases h1
  unfold sliced
  by_cases c : cap = i
  · have hl : l.length = i := by omega
    rw [if_pos c, List.drop_of_length_le (by omega)]
    refine ⟨_, _, 0, 0, by rw [show l.length - i = 0 by omega]; rfl, by simp, by omega, fun h => absurd h (by simp), fun j u hu => ?_⟩
    simp [En.fl] at hu
  · rw [if_neg c]
    refine ⟨_, _, g, off + i * E.k, by rw [List.length_drop], by rw [List.length_drop]; omega, by omega, fun h => ?_, fun j u hu => ?_⟩
    · rw [List.length_drop] at h
      obtain ⟨rfl, hg⟩ := h4 (by omega)
      refine ⟨?_, hg⟩
      rw [Option.map_some, Addr.add_mid]
    · rw [← E.fl_drop, List.getElem?_drop] at hu
      rw [Nat.add_assoc]
      exact h5 _ u hu
/-- 'x[:m]' of a slice that is read. -/
theorem ER.take (h : ER E W (.slice q n cap) l) {m c : Nat} (hm : m ≤ n) (hc : m ≤ c) (hcm : c ≤ 9223372036854775807) : ER E W (.slice q m c) (l.take m) := by
  obtain ⟨q', cap', g, off, h1, h2, h3, h4, h5⟩ := h
  cases h1
  refine ⟨_, _, g, off, by rw [List.length_take, Nat.min_eq_left hm], by rw [List.length_take, Nat.min_eq_left hm]; exact hc, hcm, fun h => ?_, fun j u hu => ?_⟩
  · rw [List.length_take] at h
    exact h4 (by omega)
  · rw [← E.fl_take] at hu
    have hj := (List.getElem?_eq_some_iff.1 hu).1
    rw [List.length_take] at hj
    rw [List.getElem?_take_of_lt (by omega)] at hu
    exact h5 j u hu
end
set_option maxHeartbeats 2000000 in
theorem sliced_blk {q : Option Addr} {i n c k g : Nat} (h : (sliced q i n c k).ownBlock = some g) : (Value.slice q n c).ownBlock = some g := by
  unfold sliced at h
  cases q with
  | none => split at h <;> simp [Value.ownBlock] at h
  | some a =>
    split at h
    · exact h
    · have e : (a.add (i * k)).block = a.block := by unfold Addr.add; split <;> rfl
      exact (congrArg some e).symm.trans h
theorem ssince_new {B b : Nat} {vr vh vc : Value} {S : Sm} (fr : Int) (w : World) (h : Sq w B b vr vh vc S) (hI : mkd S = true → InsC S.ho S.mr) :
    Calls Tryz.prog 50 #[sptr b, .int .i64 fr] w fun e w' => ∃ v, e = .returned v ∧ ER E5 w' v (sinL S fr) ∧ (∀ g, v.ownBlock = some g → w.heap.size ≤ g) ∧ Below w.heap.size w w' := by
  have hsrt := allS_srt h.ok
  have hlen := allS_len h.ok
  cases c : mkd S
  · have hall : allS S = S.ho := by unfold allS; rw [c]; rfl
    have HS : Hid (sinL S fr = S.ho.filter fun o => decide (fr ≤ o.s)) := by show _ = _; unfold sinL; rw [hall]
    rw [hall] at hsrt hlen
    clear hall hI
    go_enter Tryz.func50, Tryz.ntmps50
    go_upto_region 2 with (go_at_call 13; refine (sheld_any w h).mono ?_; rintro e W1 ⟨v1, rfl, hO1, b1⟩)
    have h1 := h.keep b1
    obtain ⟨q1, c1, g1, o1, rfl, hc1, hm1, -, -⟩ := hO1.er
    have hE1 := hO1.er
    have HO1 : Hid (∀ g, (Value.slice q1 S.ho.length c1).ownBlock = some g → w.heap.size ≤ g) := fun g hg => (World.ownsRow.lt hO1 g hg).1
    clear hO1
    go_upto_region 4 with (go_at_call 51; refine (smarked_any _ h1).mono ?_; rintro e W1 ⟨rfl, rfl⟩; rw [c])
    go_wp2_with (first
      | (go_at_call 75; refine (sfind_any _ S.ho fr _ hE1 (by omega) hsrt).mono ?_; rintro e W2 ⟨i, rfl, hF, b2⟩; obtain ⟨hile, HR⟩ : i ≤ S.ho.length ∧ Hid (ER E5 W2 (sliced q1 i S.ho.length c1 5) (sinL S fr)) := ⟨hF.le, by rw [HS.out, (fnd_cut hF).2]; exact (hE1.keep b2).drop hF.le⟩; clear hF; obtain ⟨sv, hsv⟩ : ∃ sv, sliced q1 i S.ho.length c1 5 = sv := ⟨_, rfl⟩; have HSV : Hid (sliced q1 i S.ho.length c1 5 = sv) := hsv; clear hsv)
      | (refine valS rfl sv ((slq_l rfl rfl rfl rfl eltO (sizeO _) hile hc1).trans (by rw [HSV.out])) ?_))
    go_ret
    refine ⟨sv, rfl, ?_, fun g hg => HO1.out g (sliced_blk (by rw [HSV.out]; exact hg)), ab_trans b1 b2⟩
    rw [← HSV.out]
    exact HR.out
  · have hall : allS S = insO S.ho S.mr := by unfold allS; rw [c]; rfl
    have HS : Hid (sinL S fr = (insO S.ho S.mr).filter fun o => decide (fr ≤ o.s)) := by show _ = _; unfold sinL; rw [hall]
    have HI := hI c
    rw [hall] at hsrt hlen
    clear hall hI
    go_enter Tryz.func50, Tryz.ntmps50
    go_upto_region 2 with (go_at_call 13; refine (sheld_any w h).mono ?_; rintro e W1 ⟨v1, rfl, hO1, b1⟩)
    have h1 := h.keep b1
    obtain ⟨-, -, -, -, k4, k5, k6, k7, k8, -, -⟩ := h1.cells W1 (Below.refl _ _)
    have HIc := HI v1 w.heap.size W1 hO1 b1.size
    unfold opV opA at HIc
    obtain ⟨q0, c0, e0⟩ := hO1.form
    have hlo := World.ownsRow.lt hO1
    rw [e0] at HIc hlo ⊢
    clear hO1 e0 v1 HI
    go_upto_region 4 with (first
      | (go_at_call 51; refine (smarked_any _ h1).mono ?_; rintro e W1 ⟨rfl, rfl⟩; rw [c])
      | (go_at_call 74; refine HIc.mono ?_; rintro e W2 ⟨v2, rfl, hO2, hf2, -⟩))
    have b2 : Below w.heap.size w W2 := b1.trans (hf2.below b1.size (fun k hk => (hlo k hk).1))
    obtain ⟨q1, c1, g1, o1, rfl, hc1, hm1, -, -⟩ := hO2.er
    have hE1 := hO2.er
    have HO1 : Hid (∀ g, (Value.slice q1 (insO S.ho S.mr).length c1).ownBlock = some g → w.heap.size ≤ g) := fun g hg => (World.ownsRow.lt hO2 g hg).1
    clear hO2 hf2 hlo
    generalize hL : insO S.ho S.mr = L at *
    go_wp2_with (first
      | (go_at_call 75; refine (sfind_any _ L fr _ hE1 (by omega) hsrt).mono ?_; rintro e W3 ⟨i, rfl, hF, b3⟩; obtain ⟨hile, HR⟩ : i ≤ L.length ∧ Hid (ER E5 W3 (sliced q1 i L.length c1 5) (sinL S fr)) := ⟨hF.le, by rw [HS.out, (fnd_cut hF).2]; exact (hE1.keep b3).drop hF.le⟩; clear hF; obtain ⟨sv, hsv⟩ : ∃ sv, sliced q1 i L.length c1 5 = sv := ⟨_, rfl⟩; have HSV : Hid (sliced q1 i L.length c1 5 = sv) := hsv; clear hsv)
      | (refine valS rfl sv ((slq_l rfl rfl rfl rfl eltO (sizeO _) hile hc1).trans (by rw [HSV.out])) ?_))
    go_ret
    refine ⟨sv, rfl, ?_, fun g hg => HO1.out g (sliced_blk (by rw [HSV.out]; exact hg)), ab_trans b2 b3⟩
    rw [← HSV.out]
    exact HR.out
theorem ssince_any {B b : Nat} {vr vh vc : Value} {S : Sm} (fr : Int) (w : World) (h : Sq w B b vr vh vc S) (hI : mkd S = true → InsC S.ho S.mr) :
    Calls Tryz.prog 50 #[sptr b, .int .i64 fr] w fun e w' => ∃ v, e = .returned v ∧ ER E5 w' v (sinL S fr) ∧ Below w.heap.size w w' :=
  (ssince_new fr w h hI).mono (by rintro e w' ⟨v, h1, h2, -, h3⟩; exact ⟨v, h1, h2, h3⟩)
end Go.Proofs.YthmolbcnbcajdaaGreat
namespace Go.Proofs.YthmolbcnbcajdaaGreat
open Go.RowKit
set_option linter.unusedVariables false
set_option maxRecDepth 100000

theorem slq_hm {P : Program} {o : Oper} {w : World} {ρ : Operand → Value} {t : TypeId} {x z m : Operand} (ho : o.op = .slice t x none (some z) (some m)) {q : Option Addr} {n cap h sz : Nat} {J : Int}
    (hx : ρ x = .slice q n cap) (hz : ρ z = .int .i64 J) (hm : ρ m = .int .i64 J) (hJ : J = (h : Int))
    (ht : P.underlying t = some (.slice (P.elem t))) (hs : (sizeOf (P.elem t)).run P w = .ok sz w) (h2 : h ≤ cap) : (execOp ρ o).run P w = .ok (.value (.slice q h h)) w := by
  subst hJ
  unfold execOp
  simp only [ho, hx, hz, hm, Option.map_some, Option.map_none, Sem.run_bind, run_sliceAt_slice w t _ _ _ _ ht, run_slice_hm w t q n cap ht _ _ (h : Int) (h : Int) (by omega) (by omega) (by omega), hs, Result.andThen_ok, Sem.run_pure, Int.toNat_natCast, sliced, Nat.zero_mul, Nat.sub_zero]
  by_cases c : h = 0
  · rw [if_pos c]
  · rw [if_neg c]
    cases q with
    | none => rfl
    | some a => simp [Addr.add]
set_option maxHeartbeats 2000000 in
theorem sreplay_new {B b : Nat} {vr vh vc : Value} {S : Sm} (fr most : Int) (w : World) (h : Sq w B b vr vh vc S) (hI : mkd S = true → InsC S.ho S.mr) :
    Calls Tryz.prog 24 #[sptr b, .int .i64 fr, .int .i64 most] w fun e w' => ∃ v, e = .returned (.tuple #[v, .int .i64 (repN S fr most)]) ∧ ER E5 w' v (repL S fr most) ∧ (∀ g, v.ownBlock = some g → w.heap.size ≤ g) ∧ Below w.heap.size w w' := by
  have r3 : ∀ V, Below w.heap.size w V → V.cell? ⟨b, 3, none⟩ = some (.int .i64 S.nx) := fun V hb => (h.blk.keep hb).at rfl
  have hn0 := h.ok.n0
  have hn1 := h.ok.n1
  have hc : ∀ V, Below w.heap.size w V → Calls Tryz.prog 50 #[sptr b, .int .i64 fr] V fun e w' => ∃ v, e = .returned v ∧ ER E5 w' v (sinL S fr) ∧ (∀ g, v.ownBlock = some g → V.heap.size ≤ g) ∧ Below V.heap.size V w' := fun V hb => ssince_new fr V (h.keep hb) hI
  clear h hI
  go_enter Tryz.func24, Tryz.ntmps24
  go_upto_region 3 with fail
  refine wp_region_held_drew (S := fun w' => Below w.heap.size w w') (by kernel_rfl) (ab_drew (Below.refl _ _)) (fun hHeld => ?_)
  generalize w.drew = V at *
  have hsub : IntKind.i64.wrap (S.nx - 1) = S.nx - 1 := by simp [IntKind.wrap, IntKind.signed, IntKind.bits] <;> omega
  refine takeH (i := 0) (some 13) rfl rfl (by kernel_rfl) (by kernel_rfl) (by kernel_rfl) (fun _ _ _ h => h) (by rfl) (fun w hSw => by (try dsimp only at hSw); go_simp; try rfl) hHeld ?_
  go_frame
  refine takeH (i := 1) (some 14) rfl rfl (by kernel_rfl) (by kernel_rfl) (by kernel_rfl) (fun _ _ _ h => h) (by rfl) (fun w hSw => by (try dsimp only at hSw); go_simp; try rfl) hHeld ?_
  go_frame
  refine takeH (i := 3) (some 16) rfl rfl (by kernel_rfl) (by kernel_rfl) (by kernel_rfl) (fun _ _ _ h => h) (by rfl) (fun w hSw => by (try dsimp only at hSw); go_simp; try rfl) hHeld ?_
  go_frame
  refine takeH (i := 4) (some 17) rfl rfl (by kernel_rfl) (by kernel_rfl) (by kernel_rfl) (fun _ _ _ h => h) (by rfl) (fun w hSw => by (try dsimp only at hSw); go_simp; try rfl) hHeld ?_
  go_frame
  refine takeH (i := 5) (some 18) rfl rfl (by kernel_rfl) (by kernel_rfl) (by kernel_rfl) (fun _ _ _ h => h) (by rfl) (fun w hSw => by (try dsimp only at hSw); go_simp; try rfl) hHeld ?_
  go_frame
  refine takeH (i := 6) (some 19) rfl rfl (by kernel_rfl) (by kernel_rfl) (by kernel_rfl) (fun _ _ _ h => h) (by rfl) (fun w hSw => by (try dsimp only at hSw); (have y := r3 _ hSw; go_simp; try rfl)) hHeld ?_
  go_frame
  refine takeH (i := 7) (some 20) rfl rfl (by kernel_rfl) (by kernel_rfl) (by kernel_rfl) (fun _ _ _ h => h) (by rfl) (fun w hSw => by (try dsimp only at hSw); go_simp; try rfl) hHeld ?_
  go_frame
  refine wpAnyH_ready (rs := [2]) (by kernel_rfl) (by simp) (AllReadyH.cons rfl (fun K hK => ?_) AllReadyH.nil)
  go_simp
  refine (hc V hHeld).mono ?_
  rintro e W1 ⟨v1, rfl, hE1, hn1', b1⟩
  show K _ _
  have hb1 := ab_trans hHeld b1
  have hHeld0 := hHeld.size
  refine hK.out _ _ hb1 (fun hHeld => ?_)
  clear hK K
  obtain ⟨q, cap, g, off, rfl, hcc, hcm, hp, hr⟩ := hE1.at
  have HE : Hid (ER E5 W1 (.slice q (sinL S fr).length cap) (sinL S fr)) := hE1
  have HNW : Hid (∀ k c g, (Value.slice q k c).ownBlock = some g → w.heap.size ≤ g) := fun k c g hg => Nat.le_trans hHeld0 (hn1' g (by cases q with | none => cases hg | some a => exact hg))
  clear hn1'
  clear hE1 hc r3
  obtain ⟨R, hR⟩ : ∃ R, R = sinL S fr := ⟨_, rfl⟩
  obtain ⟨k, hk⟩ : ∃ k, k = repK S fr most := ⟨_, rfl⟩
  have hk2 : k = min (max most 0).toNat R.length := by rw [hk, hR]; rfl
  have HL : Hid (repL S fr most = R.take k) := by show _ = _; rw [hk, hR]; rfl
  have HN : Hid (repN S fr most = if k < R.length then (if k = 0 then min (wrap64 (fr - 1)) (S.nx - 1) else (R.getD (k - 1) zOp).s) else S.nx - 1) := by show _ = _; rw [hk, hR]; rfl
  rw [← hR] at hcc hp hr HE ⊢
  clear hR hk
  generalize hN : R.length = N at *
  try go_frame
  refine takeH (i := 8) (some 8) rfl rfl (by kernel_rfl) (by kernel_rfl) (by kernel_rfl) (fun _ _ _ h => h) (by rfl) (fun w hSw => by (try dsimp only at hSw); go_simp; try rfl) hHeld ?_
  go_frame
  refine takeH (i := 9) (some 9) rfl rfl (by kernel_rfl) (by kernel_rfl) (by kernel_rfl) (fun _ _ _ h => h) (by rfl) (fun w hSw => by (try dsimp only at hSw); go_simp; try rfl) hHeld ?_
  go_frame
  refine wpAnyH_done (by kernel_rfl) ?_ _
  have hmm : min (max most 0) (N : Int) = (k : Int) := by omega
  have hkN : k ≤ N := by omega
  clear hk2 hHeld hsub
  by_cases c1 : k < N
  · have c1i : (k : Int) < (N : Int) := by omega
    rw [if_pos c1] at HN
    by_cases c2 : k = 0
    · rw [if_pos c2] at HN
      subst c2
      clear hr hp hkN c1
      go_wp2_with (refine valS rfl (.slice q 0 0) (slq_hm (h := 0) rfl rfl rfl rfl rfl eltO (sizeO _) (Nat.zero_le _)) ?_)
      go_ret2
      refine ⟨_, by rw [HN.out]; rfl, ?_, fun g hg => HNW.out _ _ g hg, hb1⟩
      rw [HL.out]
      exact HE.out.take (Nat.zero_le _) (Nat.le_refl _) (by omega)
    · rw [if_neg c2] at HN
      obtain ⟨o, ho⟩ : ∃ o, R[k - 1]? = some o := ⟨R[k - 1]'(by omega), List.getElem?_eq_getElem (by omega)⟩
      obtain ⟨rfl, hg⟩ := hp (by omega)
      have z0 : W1.cell? ⟨g, off + (k - 1) * 5, none⟩ = some (.int .i64 o.s) := hr (k - 1) o ho 0 _ rfl
      have HN2 : Hid (repN S fr most = o.s) := by show _ = _; rw [HN.out, List.getD_eq_getElem?_getD, ho]; rfl
      have c2i : ((k : Int) == 0) = false := by simp; omega
      obtain ⟨k1, hk1⟩ : ∃ k1 : Nat, k = k1 + 1 := ⟨k - 1, by omega⟩
      have hk1i : (k : Int) - 1 = (k1 : Int) := by omega
      have hk1n : (k1 : Int) < (N : Int) := by omega
      have hk1n' : k1 < N := by omega
      rw [show k - 1 = k1 by omega] at z0
      clear hr hp HN ho hk1
      go_wp2_with (refine valS rfl (.slice (some ⟨g, off, none⟩) k k) (slq_hm (h := k) rfl rfl rfl rfl rfl eltO (sizeO _) (by omega)) ?_)
      go_ret2
      refine ⟨_, by rw [HN2.out]; rfl, ?_, fun g hg => HNW.out _ _ g hg, hb1⟩
      rw [HL.out]
      exact HE.out.take (by omega) (Nat.le_refl _) (by omega)
  · have c1i : ¬ ((k : Int) < (N : Int)) := by omega
    rw [if_neg c1] at HN
    clear hr hp
    go_wp2_with (refine valS rfl (.slice q k k) (slq_hm (h := k) rfl rfl rfl rfl rfl eltO (sizeO _) (by omega)) ?_)
    go_ret2
    refine ⟨_, by rw [HN.out]; rfl, ?_, fun g hg => HNW.out _ _ g hg, hb1⟩
    rw [HL.out]
    exact HE.out.take (by omega) (Nat.le_refl _) (by omega)
theorem sreplay_any {B b : Nat} {vr vh vc : Value} {S : Sm} (fr most : Int) (w : World) (h : Sq w B b vr vh vc S) (hI : mkd S = true → InsC S.ho S.mr) :
    Calls Tryz.prog 24 #[sptr b, .int .i64 fr, .int .i64 most] w fun e w' => ∃ v, e = .returned (.tuple #[v, .int .i64 (repN S fr most)]) ∧ ER E5 w' v (repL S fr most) ∧ Below w.heap.size w w' :=
  (sreplay_new fr most w h hI).mono (by rintro e w' ⟨v, h1, h2, -, h3⟩; exact ⟨v, h1, h2, h3⟩)
theorem sreplay_nil (fr most : Int) (w : World) : Calls Tryz.prog 24 #[.pointer none, .int .i64 fr, .int .i64 most] w fun e w' => e = .returned (.tuple #[.slice none 0 0, .int .i64 0]) ∧ w' = w := by
  go_enter Tryz.func24, Tryz.ntmps24
  go_wp2_with fail
  go_ret2
  exact ⟨rfl, rfl⟩
end Go.Proofs.YthmolbcnbcajdaaGreat
namespace Go.Proofs.YthmolbcnbcajdaaGreat
open Go.RowKit
set_option linter.unusedVariables false
set_option maxRecDepth 100000

theorem sis1 (a : Int) (w : World) : (Instr.buildSlice 22 1 #[(0, .int .i64 a)]).run Tryz.prog w = .ok (.slice (some ⟨w.heap.size, 0, none⟩) 1 1) (w.alloc (.cells (ints [a]).toArray 3)) := by kernel_rfl
theorem seq88 (w : World) : (binOp .eql 32 (Err 8) (Err 8)).run Tryz.prog w = .ok (.bool true) w := by kernel_rfl
theorem seq99 (w : World) : (binOp .eql 32 (Err 9) (Err 9)).run Tryz.prog w = .ok (.bool true) w := by kernel_rfl
theorem sne0 (w : World) : (binOp .neq 32 .nilIface .nilIface).run Tryz.prog w = .ok (.bool false) w := by kernel_rfl
theorem seq0 (w : World) : (binOp .eql 32 .nilIface .nilIface).run Tryz.prog w = .ok (.bool true) w := by kernel_rfl
def LM : Int := -9223372036854775808
def al0 : Sm := newS [10] 1 2
def alo : Op5 := ⟨1, 1, 5, 1, 7⟩
def alm : Op5 := ⟨2, 2, 10, 0, 0⟩
def al1 : Sm := ⟨[10], 1, 2, 2, zOp, [alo], [(-9223372036854775808, -9223372036854775808)]⟩
def al2 : Sm := ⟨[10], 1, 2, 3, alm, [alo], [(-9223372036854775808, -9223372036854775808)]⟩
def al3 : Sm := ⟨[10], 1, 2, 3, alm, [], [(1, -9223372036854775808)]⟩
theorem al_good : goodF [10] 1 2 = true := by decide +kernel
theorem al_s0 : sampO al0 5 1 7 = alo ∧ sampN al0 5 = 0 := ⟨by kernel_rfl, by kernel_rfl⟩
theorem al_p0 : putS al0 alo = al1 ∧ putN al0 alo = 0 := ⟨by kernel_rfl, by kernel_rfl⟩
theorem al_s1 : markO al1 10 = alm ∧ markN al1 10 = 0 := ⟨by kernel_rfl, by kernel_rfl⟩
theorem al_p1 : putS al1 alm = al2 ∧ putN al1 alm = 0 := ⟨by kernel_rfl, by kernel_rfl⟩
theorem al_s2 : sampO al2 9 1 1 = zOp ∧ sampN al2 9 = 8 := ⟨by kernel_rfl, by kernel_rfl⟩
theorem al_m2 : markO al2 9 = zOp ∧ markN al2 9 = 9 := ⟨by kernel_rfl, by kernel_rfl⟩
theorem al_c : cutS al2 [(1, -9223372036854775808)] = al3 := by kernel_rfl
theorem al_r : repL al3 1 9 = [alm] ∧ repN al3 1 9 = 2 := ⟨by kernel_rfl, by kernel_rfl⟩
theorem Sq.frmB {W W' : World} {B b : Nat} {vr vh vc : Value} {S : Sm} (h : Sq W B b vr vh vc S) {vh' : Value} {W0 : World} (m : Ms b vc W W' vh vh') (hb : Below B W0 W) (hB : W0.heap.size = B) : Below B W0 W' :=
  hb.trans (m.frm.below (by rw [← hB]; exact hb.size) (fun k hk => (h.bkge hk).1))
theorem er_onep {W : World} {g : Nat} {x y : Int} (h : Blk W g #[.int .i64 x, .int .i64 y] 85) : ER E2 W (.slice (some ⟨g, 0, none⟩) 1 1) [(x, y)] :=
  ⟨_, 1, g, 0, rfl, Nat.le_refl _, by omega, fun _ => ⟨rfl, h.lt⟩, fun j u hu => by
    rw [Nat.zero_add, h.cell]
    rw [E2.fl_one1] at hu
    have : (#[Value.int .i64 x, .int .i64 y] : Array Value).toList[j]? = some u := hu
    simpa using this⟩
theorem Ms.out {b x : Nat} {vc vh vh' : Value} {W W' : World} (m : Ms b vc W W' vh vh') (hx : ¬ bkS b vh vc x) (hl : x < W.heap.size) : ¬ bkS b vh' vc x := by
  rintro (h | h | h)
  · exact hx (.inl h)
  · rcases m.nh x h with e | e
    · exact hx (.inr (.inl e))
    · omega
  · exact hx (.inr (.inr h))
theorem Sq.fresh {W : World} {B b : Nat} {vr vh vc : Value} {S : Sm} (h : Sq W B b vr vh vc S) {x : Nat} (hx : W.heap.size ≤ x) : ¬ bkS b vh vc x := fun hk => by
  have := (h.bkge hk).2
  omega
end Go.Proofs.YthmolbcnbcajdaaGreat
