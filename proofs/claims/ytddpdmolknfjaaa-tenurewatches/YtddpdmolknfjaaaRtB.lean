/-
  The document's watch: Saw; and Saw with blocks that are barred.
-/
import Derived.Test.YtddpdmolknfjaaaRtA
namespace Go.Proofs.Ytddpdmolknfjaaa
open Go.RowKit
set_option linter.unusedVariables false
set_option maxRecDepth 100000

theorem frm_grownO {X : Nat → Prop} {A B : World} {r : Option Nat} (h : A.grownBy B r) (hb : ∀ b, r = some b → X b) : Frm X A B := ⟨h.os, h.tape, h.output, h.size, fun i hi hx => h.block i hi (fun e => hx (hb i e.symm))⟩
/-- What the document's Saw may turn. -/
def Xr (w : World) (k : Nat) : Prop := kindR w k 71 ∨ kindR w k 27
theorem saw_new {S : Wt} {l : List Int} (h : S.sn = false ∨ ¬ l = S.vl) : sawW S l = { S with sn := true, vl := l, ag := 0 } := by
  unfold sawW
  rcases h with h | h
  · rw [h]; rfl
  · rw [decide_eq_false h, Bool.and_false]; rfl
theorem saw_old {S : Wt} {l : List Int} (h : S.sn = true) (h2 : l = S.vl) : sawW S l = S := by unfold sawW; rw [h, decide_eq_true h2]; rfl
set_option maxHeartbeats 4000000 in
theorem rtsaw_any {G : Nat → Prop} (base d N : Nat) (S : Wt) (v : Value) (l : List Int) (w : World) (hW : Rh G w base d N S) (hG : ∀ k, G k → k < w.heap.size) (hv : Is w v l) (hl : l.length ≤ 1000) (hN : N ≤ 4000) :
    Calls Try.prog 26 #[wptr d, v] w fun e w' => e = .returned (.tuple #[]) ∧ Rh G w' base d (N + 1) (sawW S l) ∧ Frm (Xr w) w w' ∧ Below base w w' := by
  obtain ⟨vv, vs, hB, hO, k1, k2, k3⟩ := hW.mem
  obtain ⟨qr, cr, er, -⟩ := own_form hO
  subst er
  obtain ⟨nr, hnr⟩ : ∃ n, vs.length = n := ⟨_, rfl⟩
  rw [hnr] at hB hO k3
  obtain ⟨qv, cv, e⟩ := hv.form
  subst e
  obtain ⟨n, hn⟩ : ∃ n, l.length = n := ⟨_, rfl⟩
  rw [hn] at hv hl ⊢
  have y3 : w.cell? ⟨d, 3, none⟩ = some (.slice qr nr cr) := hB.at rfl
  have hXd : Xr w d := .inl hB.kindR
  have hXr : ∀ b, (Value.slice qr nr cr).ownBlock = some b → Xr w b := fun b hb => .inr (own_kindR hO hb)
  have hge := hW.ge
  have hdl := hB.lt
  go_enter Try.func26, Try.ntmps26
  cases hs : S.sn
  · obtain ⟨e0, -⟩ := k1 hs
    have hr0 : nr = 0 := by rw [← hnr, e0]; rfl
    subst hr0
    have HS : Hid (sawW S l = { S with sn := true, vl := l, ag := 0 }) := saw_new (.inl hs)
    clear hs k1 k2
    go_upto_region 2 with fail
    clear y3
    have hX := hB
    have hOX := hO
    have hvX := hv
    have hwX := Below.refl w.heap.size w
    have hxs := hwX.size
    refine region_L 12 (S := fun w' => Blk w' d (rtC S (.slice qr 0 cr)) 71) (by kernel_rfl) hX.drew (fun hHeld => ?_)
    refine takeP (i := 0) (some 24) (by rfl) rfl rfl (by kernel_rfl) (by kernel_rfl) (by kernel_rfl) (fun _ _ _ h => h) (by rfl) (fun w => by go_simp; try rfl) hHeld ?_
    go_frame
    refine takeP (i := 1) (some 25) (by rfl) rfl rfl (by kernel_rfl) (by kernel_rfl) (by kernel_rfl) (fun _ _ _ h => h) (by rfl) (fun w => by go_simp; try rfl) hHeld ?_
    go_frame
    refine takeP (i := 2) (some 26) (by rfl) rfl rfl (by kernel_rfl) (by kernel_rfl) (by kernel_rfl) (fun _ _ _ h => h) (by rfl) (fun w => by go_simp; try rfl) hHeld ?_
    go_frame
    refine takeP (i := 3) (some 27) (by rfl) rfl rfl (by kernel_rfl) (by kernel_rfl) (by kernel_rfl) (fun _ _ _ h => h) (by rfl) (fun w => by go_simp; try rfl) hHeld ?_
    go_frame
    refine takeL (i := 4) [9, 12] (some 28) (by rfl) rfl rfl (by kernel_rfl) (by kernel_rfl) (by kernel_rfl) (by kernel_rfl) (fun _ _ _ h => h) (by rfl) (fun w hSw => by (try dsimp only at hSw); (have hcc := hSw.at (i := 3) rfl; go_simp; try rfl)) hHeld ?_
    go_frame
    refine takeP (i := 6) (some 30) (by rfl) rfl rfl (by kernel_rfl) (by kernel_rfl) (by kernel_rfl) (fun _ _ _ h => h) (by rfl) (fun w => by go_simp; try rfl) hHeld ?_
    go_frame
    refine anyL_ready (rs := [5]) (by kernel_rfl) (by simp) (AllL.cons rfl (fun K hK => ?_) AllL.nil)
    rw [if_pos (by rfl)]
    refine bs_iW (some 29) rfl rfl [] (by simp) (isl0 _) rfl (by decide) fun W3 own3 b3 => ?_
    have own3 : W3.ownsRow w.heap.size 3 1 _ 0 (ints []) := own3
    have b3 : Below w.heap.size w W3 := ab_trans (ab_drew (Below.refl _ _)) b3
    refine hK.out _ _ (hX.keep b3) (fun hHeld => ?_)
    clear hK K
    go_frame
    refine anyL_ready (rs := [7]) (by kernel_rfl) (by simp) (AllL.cons rfl (fun K hK => ?_) AllL.nil)
    rw [if_pos (by rfl)]
    refine appiW w (some 31) rfl rfl rfl own3 rfl (hvX.keep b3) hn (by omega) b3 ?_
    intro v4 W4 own4 nn4 b4 gr4
    obtain ⟨q4, c4, e4⟩ := (io_of own4).is.form
    rw [List.nil_append] at e4
    subst e4
    refine hK.out _ _ (hX.keep b4) (fun hHeld => ?_)
    clear hK K nn4 gr4
    go_frame
    refine anyL_ready (rs := [8]) (by kernel_rfl) (by simp) (AllL.cons rfl (fun K hK => ?_) AllL.nil)
    rw [if_pos (by rfl)]
    refine ns1W (some 32) rfl rfl q4 l.length c4 (by simp only [List.map_toArray, List.map_cons, List.map_nil]; rfl) fun W5 hB5 b5 => ?_
    have b45 := ab_trans b4 b5
    refine hK.out _ _ (hX.keep b45) (fun hHeld => ?_)
    clear hK K
    go_frame
    refine anyL_ready (rs := [9]) (by kernel_rfl) (by simp) (AllL.cons rfl (fun K hK => ?_) AllL.nil)
    rw [if_pos (by rfl)]
    have hO5 := own_keep hOX b45
    refine appnsW (some 33) rfl rfl q4 l.length c4 rfl hO5 rfl hB5 (by omega) (by have := b45.size; omega) fun v6 W6 own6 gr6 at6 => ?_
    have hB6 : Blk W6 d (rtC S (.slice qr 0 cr)) 71 := blk_grownT (hX.keep b45) gr6 (blk_own hO5 (hX.keep b45) (by decide))
    refine hK.out _ _ hB6 (fun hHeld => ?_)
    clear hK K
    go_frame
    refine takeP (i := 10) (some 34) (by rfl) rfl rfl (by kernel_rfl) (by kernel_rfl) (by kernel_rfl) (fun _ _ _ h => h) (by rfl) (fun w => by go_simp; try rfl) hHeld ?_
    go_frame
    refine takeP (i := 11) (some 35) (by rfl) rfl rfl (by kernel_rfl) (by kernel_rfl) (by kernel_rfl) (fun _ _ _ h => h) (by rfl) (fun w => by go_simp; try rfl) hHeld ?_
    go_frame
    obtain ⟨q6, c6, e6, -⟩ := own_form own6
    subst e6
    have p6 : W6.cell? ⟨d, 3, none⟩ = some (.slice qr 0 cr) := hB6.at rfl
    have f6 := hB6.frozen 3
    refine anyL_ready (rs := [12]) (by kernel_rfl) (by simp) (AllL.last rfl (by kernel_rfl) (fun K hK => ?_))
    go_simp
    refine hK.out _ _ ?_
    clear hK K
    refine anyL_done (by kernel_rfl) ?_
    have C7 := chg_set W6 d 3 (.slice q6 (0 + 1) c6)
    have hB7 := hB6.set 3 (.slice q6 (0 + 1) c6)
    have hO7 := own_chgT own6 C7 (blk_own own6 hB6 (by decide))
    have hI4 : Io W4 w.heap.size (.slice q4 l.length c4) l := io_of (l := l) own4
    have hI6 := (hI4.keep b5).kept gr6 (sep_ty (hI4.keep b5) hO5 (by decide))
    have hI7 := own_chgT hI6 C7 (blk_own hI6 hB6 (by decide))
    have hF : Frm (Xr w) w W6 := (frm_below (ab_trans hwX b45)).trans (frm_grownO gr6 hXr)
    have hBel : Below base w W6 := ((ab_trans hwX b45).mono (by omega)).trans (below_ownE hO5 (by have := b45.size; omega) gr6)
    have hF7 := hF.trans (frm_chg (X := Xr w) C7 hXd)
    generalize W6.setCell ⟨d, 3, none⟩ (.slice q6 (0 + 1) c6) = W7 at hB7 hO7 hI7 hF7 C7 ⊢
    have p7 : W7.cell? ⟨d, 4, none⟩ = some (.int .i64 S.ag) := hB7.at rfl
    have f7 := hB7.frozen 4
    have hlt7 := hB7.lt
    go_wp2_with fail
    go_end0
    have C8 := chg_set W7 d 4 (.int .i64 0)
    have hB8 := hB7.set 4 (.int .i64 0)
    rw [HS.out]
    refine ⟨rfl, ⟨⟨_, vs ++ [.slice q4 l.length c4], hB8, ?_, fun h => Bool.noConfusion (show true = false from h), fun _ => ⟨vs, q4, c4, rfl, ?_⟩, by rw [List.length_append]; show vs.length + 1 ≤ N + 1; omega⟩, by dsimp only; omega, hge, by dsimp only; omega⟩, hF7.trans (frm_chg (X := Xr w) C8 hXd), (hBel.trans (C7.below hge)).trans (C8.below hge)⟩
    · rw [List.length_append, hnr]
      exact own_chgT hO7 C8 (blk_own hO7 hB7 (by decide))
    · have hI8 : Io _ w.heap.size (.slice q4 l.length c4) l := own_chgT hI7 C8 (blk_own hI7 hB7 (by decide))
      exact ih_new hI8 (fun k hk => by have := hG k hk; omega) (by omega)
  · obtain ⟨g, m, cap, q, c, hn1, hcap, hmax, hg, hi, hC⟩ := hW.seen hs
    obtain ⟨y3', z⟩ := hC w (Below.refl _ _)
    have e9 : (Value.slice qr nr cr) = .slice (some ⟨g, 0, none⟩) (m + 1) cap := Option.some.inj (y3.symm.trans y3')
    obtain ⟨rfl, e10, rfl⟩ : qr = some ⟨g, 0, none⟩ ∧ nr = m + 1 ∧ cr = cap := by cases e9; exact ⟨rfl, rfl, rfl⟩
    have n0 : (0 : Int) < (nr : Int) := by omega
    have e1 : (nr : Int) - 1 = (m : Int) := by omega
    have hnm : (m : Int) < (nr : Int) := by omega
    have hnm' : m < nr := by omega
    have hnb : nr ≤ 4000 := by omega
    clear hC y3' e9 e10
    go_wp2_with fail
    refine (gsameR_any _ _ S.vl l _ hi.1.is hv).mono ?_
    rintro e W1 ⟨rfl, b1⟩
    by_cases he : S.vl = l
    · have HS : Hid (sawW S l = S) := saw_old hs he.symm
      rw [decide_eq_true he]
      clear he y3 z e1 n0 hnm
      go_wp2_with fail
      refine bodyPost_ret (results_none rfl _ _ _) rfl ?_
      rw [HS.out]
      have hW1 := hW.keep b1
      obtain ⟨v', vs', h1, h2, h3, h4, h5⟩ := hW1.mem
      exact ⟨rfl, ⟨⟨v', vs', h1, h2, h3, h4, Nat.le_succ_of_le h5⟩, hW1.len, hW1.ge, hW1.age⟩, frm_below b1, b1.mono (Nat.le_trans hge (Nat.le_of_lt hdl))⟩
    have HS : Hid (sawW S l = { S with sn := true, vl := l, ag := 0 }) := saw_new (.inr (fun e => he e.symm))
    rw [decide_eq_false he]
    clear he
    go_upto_region 2 with fail
    clear y3 z e1 n0 hnm hi hs k1 k2
    have hX := hB.keep b1
    have hOX := own_keep hO b1
    have hvX := hv.keep b1
    have hwX := b1
    have hxs := hwX.size
    refine region_L 12 (S := fun w' => Blk w' d (rtC S (.slice (some ⟨g, 0, none⟩) nr cr)) 71) (by kernel_rfl) hX.drew (fun hHeld => ?_)
    refine takeP (i := 0) (some 24) (by rfl) rfl rfl (by kernel_rfl) (by kernel_rfl) (by kernel_rfl) (fun _ _ _ h => h) (by rfl) (fun w => by go_simp; try rfl) hHeld ?_
    go_frame
    refine takeP (i := 1) (some 25) (by rfl) rfl rfl (by kernel_rfl) (by kernel_rfl) (by kernel_rfl) (fun _ _ _ h => h) (by rfl) (fun w => by go_simp; try rfl) hHeld ?_
    go_frame
    refine takeP (i := 2) (some 26) (by rfl) rfl rfl (by kernel_rfl) (by kernel_rfl) (by kernel_rfl) (fun _ _ _ h => h) (by rfl) (fun w => by go_simp; try rfl) hHeld ?_
    go_frame
    refine takeP (i := 3) (some 27) (by rfl) rfl rfl (by kernel_rfl) (by kernel_rfl) (by kernel_rfl) (fun _ _ _ h => h) (by rfl) (fun w => by go_simp; try rfl) hHeld ?_
    go_frame
    refine takeL (i := 4) [9, 12] (some 28) (by rfl) rfl rfl (by kernel_rfl) (by kernel_rfl) (by kernel_rfl) (by kernel_rfl) (fun _ _ _ h => h) (by rfl) (fun w hSw => by (try dsimp only at hSw); (have hcc := hSw.at (i := 3) rfl; go_simp; try rfl)) hHeld ?_
    go_frame
    refine takeP (i := 6) (some 30) (by rfl) rfl rfl (by kernel_rfl) (by kernel_rfl) (by kernel_rfl) (fun _ _ _ h => h) (by rfl) (fun w => by go_simp; try rfl) hHeld ?_
    go_frame
    refine anyL_ready (rs := [5]) (by kernel_rfl) (by simp) (AllL.cons rfl (fun K hK => ?_) AllL.nil)
    rw [if_pos (by rfl)]
    refine bs_iW (some 29) rfl rfl [] (by simp) (isl0 _) rfl (by decide) fun W3 own3 b3 => ?_
    have own3 : W3.ownsRow W1.heap.size 3 1 _ 0 (ints []) := own3
    have b3 : Below W1.heap.size W1 W3 := ab_trans (ab_drew (Below.refl _ _)) b3
    refine hK.out _ _ (hX.keep b3) (fun hHeld => ?_)
    clear hK K
    go_frame
    refine anyL_ready (rs := [7]) (by kernel_rfl) (by simp) (AllL.cons rfl (fun K hK => ?_) AllL.nil)
    rw [if_pos (by rfl)]
    refine appiW W1 (some 31) rfl rfl rfl own3 rfl (hvX.keep b3) hn (by omega) b3 ?_
    intro v4 W4 own4 nn4 b4 gr4
    obtain ⟨q4, c4, e4⟩ := (io_of own4).is.form
    rw [List.nil_append] at e4
    subst e4
    refine hK.out _ _ (hX.keep b4) (fun hHeld => ?_)
    clear hK K nn4 gr4
    go_frame
    refine anyL_ready (rs := [8]) (by kernel_rfl) (by simp) (AllL.cons rfl (fun K hK => ?_) AllL.nil)
    rw [if_pos (by rfl)]
    refine ns1W (some 32) rfl rfl q4 l.length c4 (by simp only [List.map_toArray, List.map_cons, List.map_nil]; rfl) fun W5 hB5 b5 => ?_
    have b45 := ab_trans b4 b5
    refine hK.out _ _ (hX.keep b45) (fun hHeld => ?_)
    clear hK K
    go_frame
    refine anyL_ready (rs := [9]) (by kernel_rfl) (by simp) (AllL.cons rfl (fun K hK => ?_) AllL.nil)
    rw [if_pos (by rfl)]
    have hO5 := own_keep hOX b45
    refine appnsW (some 33) rfl rfl q4 l.length c4 rfl hO5 rfl hB5 (by omega) (by have := b45.size; omega) fun v6 W6 own6 gr6 at6 => ?_
    have hB6 : Blk W6 d (rtC S (.slice (some ⟨g, 0, none⟩) nr cr)) 71 := blk_grownT (hX.keep b45) gr6 (blk_own hO5 (hX.keep b45) (by decide))
    refine hK.out _ _ hB6 (fun hHeld => ?_)
    clear hK K
    go_frame
    refine takeP (i := 10) (some 34) (by rfl) rfl rfl (by kernel_rfl) (by kernel_rfl) (by kernel_rfl) (fun _ _ _ h => h) (by rfl) (fun w => by go_simp; try rfl) hHeld ?_
    go_frame
    refine takeP (i := 11) (some 35) (by rfl) rfl rfl (by kernel_rfl) (by kernel_rfl) (by kernel_rfl) (fun _ _ _ h => h) (by rfl) (fun w => by go_simp; try rfl) hHeld ?_
    go_frame
    obtain ⟨q6, c6, e6, -⟩ := own_form own6
    subst e6
    have p6 : W6.cell? ⟨d, 3, none⟩ = some (.slice (some ⟨g, 0, none⟩) nr cr) := hB6.at rfl
    have f6 := hB6.frozen 3
    refine anyL_ready (rs := [12]) (by kernel_rfl) (by simp) (AllL.last rfl (by kernel_rfl) (fun K hK => ?_))
    go_simp
    refine hK.out _ _ ?_
    clear hK K
    refine anyL_done (by kernel_rfl) ?_
    have C7 := chg_set W6 d 3 (.slice q6 (nr + 1) c6)
    have hB7 := hB6.set 3 (.slice q6 (nr + 1) c6)
    have hO7 := own_chgT own6 C7 (blk_own own6 hB6 (by decide))
    have hI4 : Io W4 W1.heap.size (.slice q4 l.length c4) l := io_of (l := l) own4
    have hI6 := (hI4.keep b5).kept gr6 (sep_ty (hI4.keep b5) hO5 (by decide))
    have hI7 := own_chgT hI6 C7 (blk_own hI6 hB6 (by decide))
    have hF : Frm (Xr w) w W6 := (frm_below (ab_trans hwX b45)).trans (frm_grownO gr6 hXr)
    have hBel : Below base w W6 := ((ab_trans hwX b45).mono (by omega)).trans (below_ownE hO5 (by have := b45.size; omega) gr6)
    have hF7 := hF.trans (frm_chg (X := Xr w) C7 hXd)
    generalize W6.setCell ⟨d, 3, none⟩ (.slice q6 (nr + 1) c6) = W7 at hB7 hO7 hI7 hF7 C7 ⊢
    have p7 : W7.cell? ⟨d, 4, none⟩ = some (.int .i64 S.ag) := hB7.at rfl
    have f7 := hB7.frozen 4
    have hlt7 := hB7.lt
    go_wp2_with fail
    go_end0
    have C8 := chg_set W7 d 4 (.int .i64 0)
    have hB8 := hB7.set 4 (.int .i64 0)
    rw [HS.out]
    refine ⟨rfl, ⟨⟨_, vs ++ [.slice q4 l.length c4], hB8, ?_, fun h => Bool.noConfusion (show true = false from h), fun _ => ⟨vs, q4, c4, rfl, ?_⟩, by rw [List.length_append]; show vs.length + 1 ≤ N + 1; omega⟩, by dsimp only; omega, hge, by dsimp only; omega⟩, hF7.trans (frm_chg (X := Xr w) C8 hXd), (hBel.trans (C7.below hge)).trans (C8.below hge)⟩
    · rw [List.length_append, hnr]
      exact own_chgT hO7 C8 (blk_own hO7 hB7 (by decide))
    · have hI8 : Io _ W1.heap.size (.slice q4 l.length c4) l := own_chgT hI7 C8 (blk_own hI7 hB7 (by decide))
      exact ih_new hI8 (fun k hk => by have := hG k hk; omega) (by omega)
end Go.Proofs.Ytddpdmolknfjaaa
