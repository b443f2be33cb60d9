/-
  Keeper: Open on a tape whose rows are registers' rows.
  Keeper, plainly: a register's row is read as that register; what the rows of a summary make.
  Keeper: a note that is kept, however many rows there are: the tape's rows make the registers.
  Keeper: the notes of estuarylaw12.KeeperRewrites: what the registers are behind each.
-/
import Derived.Test.YtlhamckpgijjmaaPk53
import Derived.Test.YtlhamckpgijjmaaPk50
namespace Go.Proofs.Ytlhamckpgijjmaa
open Go.RowKit
set_option linter.unusedVariables false
set_option maxRecDepth 100000

/-- The registers behind one row more. -/
def stR (f : Nat → Rg) (l : List Nat) : Nat → Rg := match rdB l with
  | some (k, g) => fun j => if (j : Int) = k then g else f j
  | none => f
/-- The registers that rows make. -/
def rowsR (rs : List (List Nat)) : Nat → Rg := rs.foldl stR (fun _ => rgK zK)
theorem rowsR_snoc (rs : List (List Nat)) (l : List Nat) : rowsR (rs ++ [l]) = stR (rowsR rs) l := by unfold rowsR; rw [List.foldl_append]; rfl
/-- A row that can be read. -/
def RdK (l : List Nat) : Prop := ∃ (k : Nat) (g : Rg), k < 100 ∧ rdB l = some ((k : Int), g)
set_option maxHeartbeats 8000000 in
theorem kopen_rows (base b : Nat) (v : Value) (rs : List (List Nat)) (s n : Nat) (node : Int) (w : World) (hT : Tp w base b v (up (frms rs) s n)) (hst : n < 4611686018427387000) (h0 : 0 ≤ node) (h9 : node ≤ 999) (hrs : Rok rs) (hrd : ∀ l ∈ rs, RdK l) :
    Calls Try.prog 9 #[.int .i64 node, tptr b] w fun e w' => ∃ d kb v' os, e = .returned (.tuple #[tptr kb, .nilIface]) ∧ Kp w' base b v' d kb (up (frms rs) s n) rs.length (spN rs) node os ∧ (∀ (key : Nat) (x : KD), os[key]? = some x → rgK x = rowsR rs key) ∧ w.heap.size ≤ d ∧ w.heap.size ≤ kb ∧ Mv b w w' v v' := by
  have i0 : ¬ node < 0 := by omega
  have i9 : ¬ 999 < node := by omega
  obtain ⟨m, hm⟩ : ∃ m, rs.length = m := ⟨_, rfl⟩
  rw [hm]
  have HM : Hid (rs.length = m) := hm
  clear hm
  go_enter Try.func9, Try.ntmps9
  go_wp2_with fail
  refine (dopen_up base b v rs s n w hT hst hrs).mono ?_
  rw [HM.out]
  rintro e W1 ⟨d, q, c, vs, v', rfl, hd, hD, hL, hT1, m1⟩
  have E1 := ne00
  clear i0 i9
  go_upto_region 7 with (first
    | (refine bld_k rfl rfl d node rfl rfl ?_)
    | (refine box_k rfl rfl d node rfl ?_; intro W2 hB2 b2; go_frame))
  clear E1
  have hLs := hL.bag.ls hL.row
  obtain ⟨q9, cap9, g9, o9, e9, hc9, hm9, hp9, hg9, hr9⟩ := hLs.open
  rw [HM.out] at e9 hc9 hp9 hg9
  have e9' : q = q9 ∧ c = cap9 := by injection e9 with a1 a2 a3; exact ⟨a1, a3⟩
  clear e9
  obtain ⟨rfl, rfl⟩ := e9'
  have hkb := hB2.lt
  have hbase : base ≤ W1.heap.size := Nat.le_trans (Nat.le_of_lt hT.lt) m1.size
  have HV : Hid (vs.length = m) := by show _ = _; rw [hLs.len]; exact HM.out
  go_wp2_with fail
  go_loopw [37] (fun i wr => ∃ (j : Nat) (os : List KD), j ≤ m ∧ i = .int .i64 (j : Int) ∧ Blk wr W1.heap.size (kpC d node os) 70 ∧ os.length = 100 ∧ (∀ r ∈ os, Io wr base r.v r.l) ∧ (∀ (key : Nat) (x : KD), os[key]? = some x → rgK x = rowsR (rs.take j) key) ∧ Below W1.heap.size W1 wr) (fun i _ => m - (intOf i).toNat)
  case atStart =>
    refine ⟨0, _, by omega, rfl, hB2, List.length_replicate, fun r hr => (by rw [List.eq_of_mem_replicate hr]; exact Io.nil _ _), fun key x hx => ?_, b2⟩
    rw [List.eq_of_mem_replicate (List.mem_of_getElem? hx)]
    rfl
  case round =>
    clear hB2 b2
    obtain ⟨j, os, hj, rfl, hB, hlen, him, hreg, hb⟩ := hrel
    by_cases cj : j = m
    · subst cj
      rw [List.take_of_length_le (Nat.le_of_eq HM.out)] at hreg
      clear hr9 hp9 hg9
      go_wp2_with fail
      go_ret2
      exact ⟨d, W1.heap.size, v', os, rfl, ⟨hT1.keep hb, hD.keep hb, hB, hlen, him, Nat.le_trans (Nat.le_of_lt hT.lt) hd, hbase⟩, hreg, hd, m1.size, m1.trans (mv_below v' hb)⟩
    have hjm : j < m := by omega
    have hji : (j : Int) < (m : Int) := by omega
    obtain ⟨u, hu⟩ : ∃ u, vs[j]? = some u := ⟨vs[j]'(by have := HV.out; omega), List.getElem?_eq_getElem _⟩
    obtain ⟨l, hl⟩ : ∃ l, rs[j]? = some l := ⟨rs[j]'(by have := HM.out; omega), List.getElem?_eq_getElem _⟩
    have hlm := List.mem_of_getElem? hl
    obtain ⟨key, gr, hk100, hrb⟩ := hrd l hlm
    have hsl := (hLs.each j u l hu hl).keep hb
    obtain ⟨qu, cu, eu, -⟩ := id hsl
    subst eu
    obtain ⟨nl, hnl⟩ : ∃ n, l.length = n := ⟨_, rfl⟩
    have HL9 : Hid (l.length = nl) := hnl
    rw [hnl] at hsl hu
    clear hnl
    obtain rfl := hp9 (by omega)
    have c9 := keep_cell hb (hr9 j _ hu) (hg9 (by omega))
    have HR : Hid (rowsR (rs.take (j + 1)) = stR (rowsR (rs.take j)) l) := by
      show _ = _
      rw [List.take_add_one, hl]
      exact rowsR_snoc _ _
    clear hu hl
    go_wp2_with fail
    refine (kread_any _ l _ hsl (hrs l hlm).2 (Nat.le_trans (hrs l hlm).1 (by omega))).mono ?_
    rintro e V1 ⟨hrw, v1⟩
    obtain ⟨q3, n3, c3, rfl, hO3, hn3⟩ := hrw.1 _ _ hrb
    clear hrw c9
    go_upto_region 11 with fail
    generalize hAe : V1.alloc _ = A
    have hX : Blk A V1.heap.size (rC gr.p gr.a (.slice q3 n3 c3)) 40 := by rw [← hAe]; exact Blk.new _ _ _
    have vA : Below V1.heap.size V1 A := by rw [← hAe]; exact (Below.refl _ _).alloc (Nat.le_refl _) _
    clear hAe
    have v1A := ab_trans v1 vA
    have hBA := hB.keep v1A
    have hOA := (hO3.keep vA).less (show base ≤ wr.heap.size from Nat.le_trans hbase hb.size)
    have himA : ∀ r ∈ os, Io A base r.v r.l := fun r hr => (him r hr).keep v1A
    have hbA := hb.trans (v1A.mono hb.size)
    have k1 : (key : Int) < 100 := by omega
    clear hB him hb hO3 v1 vA v1A
    go_upto_region 13 with fail
    refine region_L 6 (S := fun w' => Below A.heap.size A w') (by kernel_rfl) ((Below.refl _ _).drew) (fun hHeld => ?_)
    have hd2 : Below A.heap.size A A.drew := hHeld
    generalize A.drew = V3 at *
    refine takeP (i := 0) (some 50) (by rfl) rfl rfl (by kernel_rfl) (by kernel_rfl) (by kernel_rfl) (fun _ _ _ h => h) (by rfl) (fun w => by go_simp; try rfl) hHeld ?_
    go_frame
    refine takeP (i := 1) (some 51) (by rfl) rfl rfl (by kernel_rfl) (by kernel_rfl) (by kernel_rfl) (fun _ _ _ h => h) (by rfl) (fun w => by go_simp; try rfl) hHeld ?_
    go_frame
    refine takeL (i := 2) [6] (some 52) (by rfl) rfl rfl (by kernel_rfl) (by kernel_rfl) (by kernel_rfl) (by kernel_rfl) (fun _ _ _ h => h) (by rfl) (fun w hSw => by (try dsimp only at hSw); (have hh := hX.keep hSw; have t0 := hh.at (i := 0) rfl; have t1 := hh.at (i := 1) rfl; have t2 := hh.at (i := 2) rfl; have t3 := hh.at (i := 3) rfl; have t4 := hh.at (i := 4) rfl; have t5 := hh.at (i := 5) rfl; have t6 := hh.at (i := 6) rfl; go_simp; try rfl)) hHeld ?_
    go_frame
    refine takeP (i := 3) (some 53) (by rfl) rfl rfl (by kernel_rfl) (by kernel_rfl) (by kernel_rfl) (fun _ _ _ h => h) (by rfl) (fun w => by go_simp; try rfl) hHeld ?_
    go_frame
    refine takeP (i := 4) (some 54) (by rfl) rfl rfl (by kernel_rfl) (by kernel_rfl) (by kernel_rfl) (fun _ _ _ h => h) (by rfl) (fun w => by go_simp; try rfl) hHeld ?_
    go_frame
    refine takeP (i := 5) (some 55) (by rfl) rfl rfl (by kernel_rfl) (by kernel_rfl) (by kernel_rfl) (fun _ _ _ h => h) (by rfl) (fun w => by go_simp; try rfl) hHeld ?_
    go_frame
    obtain ⟨s1, s2, s3⟩ := kp_stored (hBA.keep hd2) (m := key) (by rw [hlen]; exact hk100) ⟨gr.p, gr.a, .slice q3 n3 c3, gr.l⟩
    refine anyL_ready (rs := [6]) (by kernel_rfl) (by simp) (AllL.last rfl (by kernel_rfl) (fun K hK => ?_))
    rw [if_pos (by rfl)]
    refine kstM none rfl 40 _ _ rfl W1.heap.size (2 + key * 7) (rC gr.p gr.a (.slice q3 n3 c3)) rfl rfl s3 (info_rg _ _ _) (rg_one _ _ _ _ _) ?_
    change Blk (V3.setCells W1.heap.size (2 + key * 7) (rC gr.p gr.a (.slice q3 n3 c3)).toList) W1.heap.size _ _ at s1
    change Chg W1.heap.size V3 (V3.setCells W1.heap.size (2 + key * 7) (rC gr.p gr.a (.slice q3 n3 c3)).toList) at s2
    have hkk := hBA.keep hd2
    have imx : ∀ x ∈ os.set key ⟨gr.p, gr.a, .slice q3 n3 c3, gr.l⟩, Io V3 base x.v x.l := fun x hx => by
      rcases List.mem_or_eq_of_mem_set hx with h | h
      · exact (himA x h).keep hd2
      · subst h; exact hOA.keep hd2
    have hbV := ab_trans hbA hd2
    generalize V3.setCells W1.heap.size (2 + key * 7) (rC gr.p gr.a (.slice q3 n3 c3)).toList = V4 at *
    have imy : ∀ x ∈ os.set key ⟨gr.p, gr.a, .slice q3 n3 c3, gr.l⟩, Io V4 base x.v x.l := fun x hx => own_chgT (imx x hx) s2 (blk_own (imx x hx) hkk (by decide))
    have hregN : ∀ (key' : Nat) (x : KD), (os.set key ⟨gr.p, gr.a, .slice q3 n3 c3, gr.l⟩)[key']? = some x → rgK x = rowsR (rs.take (j + 1)) key' := fun key' x hx => by
      rw [HR.out]
      unfold stR
      rw [hrb]
      dsimp only
      by_cases e : key' = key
      · subst e
        rw [List.getElem?_set_self (by rw [hlen]; omega)] at hx
        rw [if_pos rfl, ← Option.some.inj hx]
        rfl
      · rw [List.getElem?_set_ne (fun h => e h.symm)] at hx
        rw [if_neg (by omega)]
        exact hreg key' x hx
    refine hK.out _ _ ?_
    clear hK K
    refine anyL_done (by kernel_rfl) ?_
    have hfb := ab_chg hbV s2 (Nat.le_refl _)
    go_wp2_with fail
    go_roundw
    case rel =>
      (repeat apply Exists.intro)
      exact ⟨⟨j + 1, _, by omega, rfl, s1, by rw [List.length_set]; exact hlen, imy, hregN, hfb⟩, rfl⟩
    case measure => simp [intOf]; omega
end Go.Proofs.Ytlhamckpgijjmaa
namespace Go.Proofs.Ytlhamckpgijjmaa
open Go.RowKit
set_option linter.unusedVariables false

theorem rowB_nums (k : Int) (r : Rg) : rowB k r = numsB (k :: nmR r) := by
  unfold rowB numsB
  simp [List.flatMap_cons]
theorem tkO_nmR (r : Rg) : tkO (nmR r) = r := by
  obtain ⟨⟨a, b, c⟩, ⟨d, e, f⟩, l⟩ := r
  rfl
theorem tkB_nmR (r : Rg) : tkB (nmR r) = gdR r := by
  rw [tkB_long (by unfold nmR nmB; simp), tkO_nmR]
/-- A register's row is read as it. -/
theorem row_back {key : Nat} {r : Rg} (hk : key < 100) (hr : RgS r) (hg : gdR r = true) : rdB (rowB (key : Int) r) = some ((key : Int), r) := by
  have h64 : In64 ((key : Int) :: nmR r) := fun x hx => by
    rcases List.mem_cons.1 hx with rfl | hx
    · omega
    · exact hr.1 x hx
  have hlen : ((key : Int) :: nmR r).length ≤ 39 := by
    have h3 : (nmR r).length = 6 + r.l.length := by unfold nmR nmB; simp only [List.length_append, List.length_cons, List.length_nil]
    have := hr.2
    rw [List.length_cons]
    omega
  have hn : numsR (rowB (key : Int) r) 39 = some ((key : Int) :: nmR r) := by
    rw [rowB_nums]
    exact numsR_some (nus_put _ h64) (.inr (by omega))
  have hkb : keyB (key : Int) = true := by unfold keyB; rw [decide_eq_true (show (0 : Int) ≤ (key : Int) by omega), decide_eq_true (show (key : Int) < 100 by omega)]; rfl
  unfold rdB
  rw [hn]
  show (if 1 ≤ ((key : Int) :: nmR r).length ∧ keyB (key : Int) = true ∧ tkB (nmR r) = true then some ((key : Int), tkO (nmR r)) else none) = _
  rw [if_pos ⟨by simp, hkb, by rw [tkB_nmR]; exact hg⟩, tkO_nmR]
theorem rdK_row {key : Nat} {r : Rg} (hk : key < 100) (hr : RgS r) (hg : gdR r = true) : RdK (rowB (key : Int) r) := ⟨key, r, hk, row_back hk hr hg⟩
/-- What promised nothing is as it began. -/
theorem gd_zero {x : KD} (hg : gdR (rgK x) = true) (h : eqB x.p zB = true) : rgK x = rgK zK := by
  obtain ⟨⟨p0, p1, p2⟩, ⟨a0, a1, a2⟩, v, l⟩ := x
  have hp := of_decide_eq_true (show decide (p0 = 0 ∧ p1 = 0 ∧ p2 = 0) = true from h)
  obtain ⟨rfl, rfl, rfl⟩ := hp
  unfold gdR gdN at hg
  simp only [Bool.and_eq_true] at hg
  obtain ⟨-, hw, hlt, hn⟩ := hg
  have hw := of_decide_eq_true (show decide (0 ≤ a0 ∧ 0 ≤ a1 ∧ 0 ≤ a2) = true from hw)
  have hlt : lt3 ⟨0, 0, 0⟩ ⟨a0, a1, a2⟩ = false := by simpa [rgK] using hlt
  have hlt := of_decide_eq_false hlt
  dsimp only at hlt
  have h0 : a0 = 0 ∧ a1 = 0 ∧ a2 = 0 := by omega
  obtain ⟨rfl, rfl, rfl⟩ := h0
  have hz : noB (⟨0, 0, 0⟩ : Bt) = true := rfl
  have hn2 : (if noB (⟨0, 0, 0⟩ : Bt) = true then decide (l.length = 0) else decide (l.length ≤ 32)) = true := hn
  rw [if_pos hz] at hn2
  have hl := List.eq_nil_of_length_eq_zero (of_decide_eq_true hn2)
  subst hl
  rfl
/-- What the rows of a summary make. -/
theorem rowsR_sum {os : List KD} (hlen : os.length = 100) (hrg : ∀ x ∈ os, RgS (rgK x) ∧ gdR (rgK x) = true) : ∀ k, k ≤ 100 → (∀ (key : Nat) (x : KD), os[key]? = some x → key < k → rowsR (sumT os k) key = rgK x) ∧ (∀ key : Nat, k ≤ key → rowsR (sumT os k) key = rgK zK) ∧ ∀ l ∈ sumT os k, RdK l := by
  intro k
  induction k with
  | zero => intro _; exact ⟨fun key x hx h => by omega, fun key _ => rfl, fun l hl => by cases hl⟩
  | succ k ih =>
    intro hk
    obtain ⟨i1, i2, i3⟩ := ih (by omega)
    obtain ⟨x, hx⟩ : ∃ x, os[k]? = some x := ⟨os[k]'(by omega), List.getElem?_eq_getElem _⟩
    obtain ⟨hr, hg⟩ := hrg x (List.mem_of_getElem? hx)
    cases he : eqB x.p zB
    · rw [sumT_yes hx he, rowsR_snoc]
      have hst : ∀ j : Nat, stR (rowsR (sumT os k)) (rowB (k : Int) (rgK x)) j = if (j : Int) = (k : Int) then rgK x else rowsR (sumT os k) j := fun j => by
        unfold stR
        rw [row_back (by omega) hr hg]
      refine ⟨fun key y hy hlt => ?_, fun key hle => ?_, fun l hl => ?_⟩
      · rw [hst]
        by_cases e : key = k
        · subst e
          rw [if_pos rfl]
          rw [hx] at hy
          rw [Option.some.inj hy]
        · rw [if_neg (by omega)]
          exact i1 key y hy (by omega)
      · rw [hst, if_neg (by omega)]
        exact i2 key (by omega)
      · rcases List.mem_append.1 hl with h | h
        · exact i3 l h
        · rw [List.mem_singleton.1 h]
          exact rdK_row (by omega) hr hg
    · rw [sumT_no hx he]
      refine ⟨fun key y hy hlt => ?_, fun key hle => i2 key (by omega), i3⟩
      by_cases e : key = k
      · subst e
        rw [hx] at hy
        rw [i2 key (by omega), ← Option.some.inj hy]
        exact (gd_zero hg he).symm
      · exact i1 key y hy (by omega)
end Go.Proofs.Ytlhamckpgijjmaa
namespace Go.Proofs.Ytlhamckpgijjmaa
open Go.RowKit
set_option linter.unusedVariables false
set_option maxRecDepth 100000

/-- A keeper whose tape's rows, all sure, make its registers. -/
structure KR (W : World) (base b : Nat) (v : Value) (d kb : Nat) (rs : List (List Nat)) (n : Nat) (node : Int) (os : List KD) : Prop where
  kp : Kp W base b v d kb (up (frms rs) (frms rs).length n) rs.length (spN rs) node os
  rg : ∀ x ∈ os, RgS (rgK x) ∧ gdR (rgK x) = true
  at' : ∀ (key : Nat) (x : KD), os[key]? = some x → rowsR rs key = rgK x
  rd : ∀ l ∈ rs, RdK l ∧ Byt l ∧ l.length ≤ 360
  few : rs.length ≤ 201
theorem spN_few {ls : List (List Nat)} (h : ∀ l ∈ ls, l.length ≤ 360) : spN ls ≤ 368 * ls.length := by
  induction ls with
  | nil => exact Nat.zero_le _
  | cons a r ih =>
    have h1 := ih (fun l hl => h l (List.mem_cons_of_mem _ hl))
    have h2 := h a (List.mem_cons_self ..)
    have h3 : spN (a :: r) = (8 + a.length) + spN r := by unfold spN; simp
    rw [h3, List.length_cons]
    omega
theorem rw_up {ls : List (List Nat)} (l : List Nat) (s n : Nat) (h : ∀ x ∈ ls, x.length ≤ 360) (hl : ls.length ≤ 201) : rwN (up l s n) ls = 0 ∧ rwS (up l s n) ls = up (frms ls) (frms ls).length (n + 1) := by
  have hs := spN_few h
  have hok : rwOK ls = true := (rwOK_iff ls).2 ⟨fun r hr => Nat.le_trans (h r hr) (by omega), by omega⟩
  have hfl : (frms ls).length = spN ls := frms_len ls
  constructor
  · unfold rwN; rw [if_pos hok]; exact up_N _ _ _
  · unfold rwS rpS
    rw [if_pos hok, if_pos (by omega), if_pos (up_N _ _ _), up_S]
set_option maxHeartbeats 4000000 in
theorem kr_handle (base b : Nat) (v0 : Value) (d kb key : Nat) (rs : List (List Nat)) (n : Nat) (node : Int) (os : List KD) (x : KD) (N : Nt) (vn vo ve : Value) (w : World) (hK : KR w base b v0 d kb rs n node os) (hn : n ≤ 1000000) (hik : Ik w base vn N.ns) (h2 : SR 5 k64 w vo N.os) (h3 : SR 76 ek w ve N.es) (ht : N.t = node) (hA : askB N) (hN : In64 N.ns) (hkey : N.ns.getD 0 0 = (key : Int)) (hx : os[key]? = some x) (h100 : key < 100) (h0 : skN N.k (rgK x) N.ns = 0) (hg : gdR (skR N.k (rgK x) N.ns) = true) :
    Calls Try.prog 12 #[tptr kb, ntV N vn vo ve] w fun e w' => ∃ v' rs' n' q m c, Km b d kb w w' v0 v' ∧ KR w' base b v' d kb rs' n' node (os.set key ⟨(skR N.k (rgK x) N.ns).p, (skR N.k (rgK x) N.ns).a, .slice q m c, (skR N.k (rgK x) N.ns).l⟩) ∧ n' ≤ n + 3 ∧ AnP w' w.heap.size (if N.k = 3 then 4 else 2) N.t N.f (N.ns.take 4 ++ (if N.k = 3 then [] else nmB (skR N.k (rgK x) N.ns).a ++ (skR N.k (rgK x) N.ns).l)) e := by
  obtain ⟨hs36, hs4⟩ := ask_short hA
  have hxm := List.mem_of_getElem? hx
  have hr := skR_small (hK.rg x hxm).1 hN hs36 h0
  have hrow := rowB_short (key : Int) _ hr.2
  have hlen := hK.kp.len
  obtain ⟨r, hre⟩ : ∃ r, skR N.k (rgK x) N.ns = r := ⟨_, rfl⟩
  rw [hre] at hr hrow hg ⊢
  have hl9 : r.l.length ≤ 900 := Nat.le_trans hr.2 (by omega)
  have hxl : x.l.length ≤ 1000 := Nat.le_trans (hK.rg x hxm).1.2 (by omega)
  -- the keeper behind it, over any rows that make the registers
  have fin : ∀ (rs0 : List (List Nat)) (n0 : Nat) (w' : World) (v' : Value) (q : Option Addr) (m c : Nat), rs0.length ≤ 200 → (∀ (key : Nat) (x : KD), os[key]? = some x → rowsR rs0 key = rgK x) → (∀ l ∈ rs0, RdK l ∧ Byt l ∧ l.length ≤ 360) →
      Kp w' base b v' d kb (wrS (up (frms rs0) (frms rs0).length n0) (frm (rowB (key : Int) r))) (rs0.length + 1) (spN rs0 + (8 + (rowB (key : Int) r).length)) node (os.set key ⟨r.p, r.a, .slice q m c, r.l⟩) →
      KR w' base b v' d kb (rs0 ++ [rowB (key : Int) r]) (n0 + 2) node (os.set key ⟨r.p, r.a, .slice q m c, r.l⟩) := by
    intro rs0 n0 w' v' q m c hlen0 hat hrd hKp
    have hsp := spN_few (fun l hl => (hrd l hl).2.2)
    have hfl : (frms rs0).length = spN rs0 := frms_len rs0
    have hfr : (frm (rowB (key : Int) r)).length = 8 + (rowB (key : Int) r).length := frm_len _
    rw [(wr_up (frms rs0) (frm (rowB (key : Int) r)) _ n0 (by omega)).2, ← frms_snoc] at hKp
    refine ⟨?_, fun y hy => ?_, fun key' y hy => ?_, fun l hl => ?_, by rw [List.length_append]; show rs0.length + 1 ≤ 201; omega⟩
    · rw [List.length_append, spN_snoc]
      exact hKp
    · rcases List.mem_or_eq_of_mem_set hy with h | h
      · exact hK.rg y h
      · rw [h]; exact ⟨hr, hg⟩
    · rw [rowsR_snoc]
      unfold stR
      rw [row_back h100 hr hg]
      dsimp only
      by_cases e : key' = key
      · subst e
        rw [List.getElem?_set_self (by omega)] at hy
        rw [if_pos rfl, ← Option.some.inj hy]
        rfl
      · rw [List.getElem?_set_ne (fun h => e h.symm)] at hy
        rw [if_neg (by omega)]
        exact hat key' y hy
    · rcases List.mem_append.1 hl with h | h
      · exact hrd l h
      · rw [List.mem_singleton.1 h]
        exact ⟨rdK_row h100 hr hg, rowB_byt _ _, hrow⟩
  have hspr := spN_few (fun l hl => (hK.rd l hl).2.2)
  have hflr : (frms rs).length = spN rs := frms_len rs
  have hfew := hK.few
  have hfr : (frm (rowB (key : Int) r)).length = 8 + (rowB (key : Int) r).length := frm_len _
  by_cases c200 : rs.length ≤ 200
  · refine (khandle_keep base b v0 d kb key _ rs.length (spN rs) node os x N vn vo ve w hK.kp (by show n < _; omega) c200 (by omega) hik h2 h3 ht hA hkey hx h100 hxl h0 (by rw [hre]; exact hr.1) (by rw [hre]; exact hl9)).mono ?_
    rw [hre]
    rintro e w' ⟨v', hm, -, hk⟩
    obtain ⟨q, m, c, hK', hAn⟩ := hk (wr_up (frms rs) (frm (rowB (key : Int) r)) _ n (by omega)).1
    exact ⟨v', _, _, q, m, c, hm, fin rs n w' v' q m c c200 hK.at' hK.rd hK', by omega, hAn⟩
  · have hrow2 := sumT_row (fun x hx => (hK.rg x hx).1) 100
    have hsl := sumT_len os 100
    obtain ⟨hr1, hr2⟩ := rw_up (frms rs) (frms rs).length n (fun l hl => (hrow2 l hl).2) (by omega)
    have hsp2 := spN_few (fun l hl => (hrow2 l hl).2)
    obtain ⟨j1, j2, j3⟩ := rowsR_sum hlen hK.rg 100 (Nat.le_refl _)
    have hfl2 : (frms (sumT os 100)).length = spN (sumT os 100) := frms_len _
    refine (khandle_many base b v0 d kb key _ (up (frms (sumT os 100)) (frms (sumT os 100)).length (n + 1)) rs.length (spN rs) (sumT os 100).length (spN (sumT os 100)) node os x N vn vo ve w hK.kp (by show n < _; omega) (by omega) (fun x hx => (hK.rg x hx).1) hr1 hr2 rfl rfl (by show n + 1 < _; omega) (by omega) hik h2 h3 ht hA hkey hx h100 hxl h0 (by rw [hre]; exact hr.1) (by rw [hre]; exact hl9)).mono ?_
    rw [hre]
    rintro e w' ⟨v', hm, -, hk⟩
    obtain ⟨q, m, c, hK', hAn⟩ := hk (wr_up (frms (sumT os 100)) (frm (rowB (key : Int) r)) _ (n + 1) (by omega)).1
    exact ⟨v', _, _, q, m, c, hm, fin (sumT os 100) (n + 1) w' v' q m c (by omega) (fun key' y hy => j1 key' y hy (by have := (List.getElem?_eq_some_iff.1 hy).1; omega)) (fun l hl => ⟨j3 l hl, (hrow2 l hl).1, (hrow2 l hl).2⟩) hK', by omega, hAn⟩
end Go.Proofs.Ytlhamckpgijjmaa
namespace Go.Proofs.Ytlhamckpgijjmaa
open Go.RowKit
set_option linter.unusedVariables false
set_option maxRecDepth 100000

/-- The register whose last number is m. -/
def rgM (m : Nat) : Rg := if m = 0 then rgK zK else ⟨⟨(m : Int), 2, 0⟩, ⟨(m : Int), 2, 0⟩, [(m : Int)]⟩
abbrev nM (key i : Nat) : Nt := ⟨3, 2, 0, [(key : Int), (i : Int), 2, 0, (i : Int)], [], []⟩
theorem rgM_gd (m : Nat) : gdR (rgM m) = true := by
  unfold rgM
  split
  · decide
  · next h =>
    have h1 : (0 : Int) ≤ (m : Int) := by omega
    have h2 : ¬ (m : Int) = 0 := by omega
    simp [gdR, gdN, whB, lt3, noB]
theorem rgM_len (m : Nat) : (rgM m).l = if m = 0 then [] else [(m : Int)] := by
  unfold rgM
  split <;> rfl
theorem nM_ask {key : Nat} (i : Nat) (h : key < 8) : askB (nM key i) := by
  refine ⟨.inr rfl, ⟨by simp, by simp, by unfold FitK; simp, fun o ho => by simp at ho⟩, ?_⟩
  show keyB (key : Int) = true
  unfold keyB
  rw [decide_eq_true (show (0 : Int) ≤ (key : Int) by omega), decide_eq_true (show (key : Int) < 100 by omega)]
  rfl
theorem nM_in (key i : Nat) (h : key < 8) (hi : i ≤ 1000) : In64 (nM key i).ns := fun x hx => by
  simp only [List.mem_cons, List.not_mem_nil, or_false] at hx
  omega
theorem nM_N {key i m : Nat} (h0 : 0 < i) (h : m < i) : skN 3 (rgM m) (nM key i).ns = 0 := by
  unfold skN
  rw [if_pos rfl]
  have hq : qB (nM key i).ns = ⟨(i : Int), 2, 0⟩ := rfl
  have hd : (nM key i).ns.drop 4 = [(i : Int)] := rfl
  rw [hq, hd]
  unfold acN
  rw [rgM_gd]
  have ha : asB ⟨(i : Int), 2, 0⟩ = true := by
    have h1 : (0 : Int) ≤ (i : Int) := by omega
    simp [asB, whB, noB]
  rw [ha]
  have hl : lt3 ⟨(i : Int), 2, 0⟩ (rgM m).p = false := by
    unfold rgM
    split
    · exact decide_eq_false (fun hh => by simp only [rgK, zB] at hh; omega)
    · exact decide_eq_false (fun hh => by dsimp only at hh; omega)
  rw [hl]
  rfl
theorem nM_R {key i m : Nat} (h0 : 0 < i) (h : m < i) : skR 3 (rgM m) (nM key i).ns = rgM i := by
  have hn := nM_N (key := key) h0 h
  unfold skN at hn
  rw [if_pos rfl] at hn
  unfold skR
  rw [if_pos rfl]
  unfold acR
  rw [if_pos hn]
  unfold rgM
  rw [if_neg (by omega)]
  rfl
/-- A keeper behind the notes 1 to i - 1, whose last numbers are ls. -/
structure RW (W : World) (base b : Nat) (v : Value) (d kb n i : Nat) (ls : List Nat) : Prop where
  ex : ∃ rs os, KR W base b v d kb rs n 0 os ∧ ∀ key, key < 8 → ∃ x, os[key]? = some x ∧ rgK x = rgM (ls.getD key 0)
  lt : ∀ key, ls.getD key 0 < i
  len : ls.length = 8
  st : n ≤ 3 * i
theorem RW.keep {W W' : World} {base b : Nat} {v : Value} {d kb n i : Nat} {ls : List Nat} (h : RW W base b v d kb n i ls) (hb : Below W.heap.size W W') : RW W' base b v d kb n i ls := by
  obtain ⟨rs, os, hK, h2⟩ := h.ex
  exact ⟨⟨rs, os, ⟨hK.kp.keep hb, hK.rg, hK.at', hK.rd, hK.few⟩, h2⟩, h.lt, h.len, h.st⟩
theorem rw_new {w : World} {base b : Nat} {v : Value} {d kb : Nat} (h : Kp w base b v d kb (up [] 0 0) 0 0 0 (List.replicate 100 zK)) : RW w base b v d kb 0 1 (List.replicate 8 0) := by
  refine ⟨⟨[], List.replicate 100 zK, ⟨h, fun x hx => ?_, fun key x hx => ?_, fun l hl => (by cases hl), by simp⟩, fun key hk => ⟨zK, by rw [List.getElem?_replicate, if_pos (by omega)], ?_⟩⟩, fun key => ?_, by simp, by omega⟩
  · rw [List.eq_of_mem_replicate hx]
    exact ⟨⟨in64_small (by decide), by decide⟩, by decide⟩
  · rw [List.eq_of_mem_replicate (List.mem_of_getElem? hx)]
    rfl
  · rw [show (List.replicate 8 0).getD key 0 = 0 by rw [List.getD_eq_getElem?_getD, List.getElem?_replicate]; split <;> rfl]
    rfl
  · rw [show (List.replicate 8 0).getD key 0 = 0 by rw [List.getD_eq_getElem?_getD, List.getElem?_replicate]; split <;> rfl]
    omega
theorem rw_handle {base b d kb n i key : Nat} {v : Value} {ls : List Nat} {w : World} (h : RW w base b v d kb n i ls) (hi : i ≤ 500) (h0 : 0 < i) (hk : key < 8) (vn : Value) (hik : Ik w base vn (nM key i).ns) :
    Calls Try.prog 12 #[tptr kb, ntV (nM key i) vn (.slice none 0 0) (.slice none 0 0)] w fun e w' => ∃ v' n', Km b d kb w w' v v' ∧ Below base w w' ∧ RW w' base b v' d kb n' (i + 1) (ls.set key i) ∧ AnP w' w.heap.size 4 0 2 ((nM key i).ns.take 4) e := by
  obtain ⟨rs, os, hK, h2⟩ := h.ex
  obtain ⟨x, hx, hr⟩ := h2 key hk
  have hlt := h.lt key
  have hst := h.st
  have hN := nM_N (key := key) h0 hlt
  have hR := nM_R (key := key) h0 hlt
  refine (kr_handle base b v d kb key rs n 0 os x (nM key i) vn _ _ w hK (by omega) hik (SR.nil _ _ _) (SR.nil _ _ _) rfl (nM_ask i hk) (nM_in key i hk (by omega)) rfl hx (by omega) (by rw [hr]; exact hN) (by rw [hr]; show gdR (skR 3 _ _) = true; rw [hR]; exact rgM_gd i)).mono ?_
  rintro e w' ⟨v', rs', n', q, m, c, hm, hK', hn', hA⟩
  rw [hr] at hK'
  have hK' : KR w' base b v' d kb rs' n' 0 (os.set key ⟨(skR 3 (rgM (ls.getD key 0)) (nM key i).ns).p, (skR 3 (rgM (ls.getD key 0)) (nM key i).ns).a, .slice q m c, (skR 3 (rgM (ls.getD key 0)) (nM key i).ns).l⟩) := hK'
  rw [hR] at hK'
  refine ⟨v', n', hm, hm.below' hK.kp, ⟨⟨rs', _, hK', fun key' hk' => ?_⟩, fun key' => ?_, by rw [List.length_set]; exact h.len, by omega⟩, ?_⟩
  · have hl := hK.kp.len
    have hl8 := h.len
    by_cases e : key' = key
    · subst e
      refine ⟨_, List.getElem?_set_self (by omega), ?_⟩
      rw [show (ls.set key' i).getD key' 0 = i by rw [List.getD_eq_getElem?_getD, List.getElem?_set_self (by omega)]; rfl]
      rfl
    · obtain ⟨y, hy, hry⟩ := h2 key' hk'
      refine ⟨y, by rw [List.getElem?_set_ne (fun h => e h.symm)]; exact hy, ?_⟩
      rw [show (ls.set key i).getD key' 0 = ls.getD key' 0 by rw [List.getD_eq_getElem?_getD, List.getElem?_set_ne (fun h => e h.symm), ← List.getD_eq_getElem?_getD]]
      exact hry
  · have h9 := h.lt key'
    by_cases e : key' = key
    · subst e
      have hl8 := h.len
      rw [show (ls.set key' i).getD key' 0 = i by rw [List.getD_eq_getElem?_getD, List.getElem?_set_self (by omega)]; rfl]
      omega
    · rw [show (ls.set key i).getD key' 0 = ls.getD key' 0 by rw [List.getD_eq_getElem?_getD, List.getElem?_set_ne (fun h => e h.symm), ← List.getD_eq_getElem?_getD]]
      omega
  · have hA : AnP w' w.heap.size 4 0 2 ((nM key i).ns.take 4 ++ []) e := hA
    rw [List.append_nil] at hA
    exact hA
theorem rw_rows {base b d kb n i : Nat} {v : Value} {ls : List Nat} {w : World} (h : RW w base b v d kb n i ls) : Calls Try.prog 19 #[tptr kb] w fun e w' => ∃ nr : Nat, e = .returned (.int .i64 (nr : Int)) ∧ nr ≤ 201 ∧ w' = w := by
  obtain ⟨rs, os, hK, h2⟩ := h.ex
  refine (krows_any b d kb _ _ 0 os w hK.kp.kp hK.kp.dy).mono ?_
  rintro e w' ⟨he, hw⟩
  exact ⟨_, he, hK.few, hw⟩
/-- The power goes and comes back: nothing is lost. -/
theorem rw_crash {base b d kb n i : Nat} {v : Value} {ls : List Nat} {w : World} (h : RW w base b v d kb n i ls) (hi : i ≤ 500) : Calls Try.prog 17 #[tptr b, .int .i64 0] w fun e w' => e = .returned (.tuple #[]) ∧ ∃ v' rs s, Tp w' base b v' (up (frms rs) s n) ∧ (∀ l ∈ rs, RdK l ∧ Byt l ∧ l.length ≤ 360) ∧ rs.length ≤ 201 ∧ (∀ key, key < 8 → rowsR rs key = rgM (ls.getD key 0)) ∧ Mv b w w' v v' := by
  obtain ⟨rs, os, hK, h2⟩ := h.ex
  refine (crash_any base b v _ 0 w hK.kp.tp (by omega)).mono ?_
  rintro e w' ⟨he, v', hT, hm⟩
  refine ⟨he, v', rs, (frms rs).length, ?_, hK.rd, hK.few, fun key hk => ?_, hm⟩
  · have hc : crS (up (frms rs) (frms rs).length n) 0 = up (frms rs) (frms rs).length n := by
      unfold crS up
      dsimp only
      have hkp : kp (⟨frms rs, (frms rs).length, n, false, 0, false, 0, false⟩ : TS) 0 = 0 := by
        unfold kp
        simp
      rw [hkp, Nat.add_zero, List.take_length]
    rw [hc] at hT
    exact hT
  · obtain ⟨x, hx, hr⟩ := h2 key hk
    rw [hK.at' key x hx]
    exact hr
end Go.Proofs.Ytlhamckpgijjmaa
