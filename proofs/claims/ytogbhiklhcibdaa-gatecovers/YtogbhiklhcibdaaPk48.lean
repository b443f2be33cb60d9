/-
  The document's basin: New.
  The law's basins: one of the program and one of the document, fed alike.
  The document's Closed of layer 16, beside the program's.
-/
import Derived.Test.YtogbhiklhcibdaaPk46
import Derived.Test.YtogbhiklhcibdaaPk47
import Derived.Test.YtogbhiklhcibdaaPk43
import Derived.Test.YtogbhiklhcibdaaPk16
namespace Go.Proofs.Ytogbhiklhcibdaa
open Go.RowKit
set_option linter.unusedVariables false
set_option maxRecDepth 100000

theorem infoSv : (Try.prog.info? 38).map (fun i => (i.zero, i.size, i.bytes)) = some (some (.slice none 0 0), 1, 24) := by kernel_rfl
set_option maxHeartbeats 2000000 in
theorem rnew16_ok (n s : Nat) (v : Value) (l : List Int) (mo : Int) (w : World) (hv : Is w v l) (hOK : newOK (n : Int) l (s : Int) mo = true) :
    Calls Try.prog 16 #[.int .i64 (n : Int), v, .int .i64 (s : Int), .int .i64 mo] w fun e w' => ∃ K, e = .returned (.tuple #[r6ptr K, .int .i64 0]) ∧ Rq w' w.heap.size K (newR6 n l (s : Int) mo) ∧ Below w.heap.size w w' := by
  obtain ⟨hn0, hg0, hmo0⟩ := newOK_iff.1 hOK
  obtain ⟨hl1, hl2, hs0⟩ := goodR_iff.1 hg0
  clear hOK hg0
  have hER := er1_is hv
  obtain ⟨q, cap, g, off, rfl, hc, hm, hp, hg, hr⟩ := hv
  obtain rfl := hp (by omega)
  replace hg := hg (by omega)
  clear hp
  generalize hN : l.length = N at *
  have k1 : ¬ (n : Int) < 1 := by omega
  have k2 : ¬ (n : Int) > 4 := by omega
  have k3 : ¬ (N : Int) < 1 := by omega
  have k4 : ¬ (N : Int) > 3 := by omega
  have k5 : ¬ (s : Int) < 1 := by omega
  have k6 : ¬ (s : Int) > 4 := by omega
  have k7 : ¬ mo < 1 := by omega
  have k8 : ¬ mo > 1024 := by omega
  go_enter Try.func16, Try.ntmps16
  go_upto_region 4 with fail
  go_upto_region 5 with (first
    | (refine bsE0 (E := E1) rfl rfl (by simp) bs_is0 ?_; intro W0 hO0 b0)
    | (at_builtin; refine app_e (E := E1) w rfl rfl Try.underlying38 infoInt rfl rfl hO0 rfl (hER.keep b0) ?c1 ?c2 b0 ?_))
  case c1 => omega
  case c2 => omega
  intro vr A1 hO1 b1 hgr1
  try rw [List.nil_append] at hO1
  obtain ⟨qr, cr, hvr⟩ := hO1.form
  rw [hN] at hvr
  subst hvr
  have hgA := Nat.lt_of_lt_of_le hg b1.size
  have hrA : IRow A1 g off l := irow_keep hr (fun _ => hg) b1
  have hIo := eo1_io hO1
  have hrl := fun k hk => (World.ownsRow.lt hO1 k hk).2
  clear hO1 hO0 b0 hgr1 hER hr hg
  obtain ⟨W2, hE, hX, b2⟩ := blk1 A1 #[.slice qr N cr, .int .i64 (s : Int), .int .i64 mo, .slice none 0 0, .slice none 0 0, .slice none 0 0, .slice none 0 0] 106
  have hOb : EO E2 24 W2 A1.heap.size (.slice none 0 0) [] := eo_nil _ _ _ _
  go_upto_region 6 with (refine bd_blk rfl rfl _ (built_b6 qr N cr (s : Int) mo) ?_)
  clear hE
  go_loopw [12] (fun i wr => ∃ (k : Nat) (qb : Option Addr) (cb : Nat), k ≤ N ∧ i = .int .i64 (k : Int) ∧ Blk wr A1.heap.size #[.slice qr N cr, .int .i64 (s : Int), .int .i64 mo, .slice none 0 0, .slice none 0 0, .slice qb (k * s) cb, .slice none 0 0] 106 ∧ EO E2 24 wr A1.heap.size (.slice qb (k * s) cb) (List.replicate (k * s) lstP) ∧ Below A1.heap.size A1 wr) (fun i _ => N - (intOf i).toNat)
  case atStart => exact ⟨0, none, 0, by omega, rfl, by rw [Nat.zero_mul]; exact hX, by rw [Nat.zero_mul]; exact hOb, b2⟩
  case round =>
    clear hX hOb b2
    obtain ⟨k, qb, cb, hk, rfl, hX, hOb, hw⟩ := hrel
    by_cases c : k = N
    · subst c
      have hIr := hIo.keep hw
      have hO3 : EO E1 3 wr A1.heap.size (.slice none 0 0) [] := eo_nil _ _ _ _
      have hO4 : EO ESv 38 wr A1.heap.size (.slice none 0 0) [] := eo_nil _ _ _ _
      clear hrA
      go_wp2_with fail
      go_loopw [14] (fun i wr' => ∃ (m : Nat) (qn qm : Option Addr) (cn cm : Nat), m ≤ n ∧ i = .int .i64 (m : Int) ∧ Blk wr' A1.heap.size #[.slice qr k cr, .int .i64 (s : Int), .int .i64 mo, .slice qn m cn, .slice qm m cm, .slice qb (k * s) cb, .slice none 0 0] 106 ∧ EO E1 3 wr' A1.heap.size (.slice qn m cn) (List.replicate m 1) ∧ EO ESv 38 wr' A1.heap.size (.slice qm m cm) (List.replicate m (none, 0, 0)) ∧ EO E2 24 wr' A1.heap.size (.slice qb (k * s) cb) (List.replicate (k * s) lstP) ∧ Below A1.heap.size A1 wr') (fun i _ => n - (intOf i).toNat)
      case atStart => exact ⟨0, none, none, 0, 0, by omega, rfl, hX, hO3, hO4, hOb, hw⟩
      case round =>
        clear hX hO3 hO4 hOb hw hIr
        obtain ⟨m, qn, qm, cn, cm, hm', rfl, hX, hO3, hO4, hOb, hw⟩ := hrel
        by_cases c1 : m = n
        · subst c1
          have hks : 0 < k * s := Nat.mul_pos (by omega) (by omega)
          obtain ⟨K0, hK1, hK2⟩ := rnew_done (B := w.heap.size) (l := l) rfl (by rw [hN]) (by omega) hks b1.size hX (hIo.keep hw) hrl hO3 hO4 hOb
          have HK : Hid (Rq wr w.heap.size K0 (newR6 m l (s : Int) mo)) := hK2
          have hbw := b1.trans (hw.mono b1.size)
          clear hX hO3 hO4 hOb hIo hrl hK2
          go_wp2_with fail
          go_ret2
          exact ⟨K0, by rw [hK1]; rfl, HK.out, hbw⟩
        · have hmi : (m : Int) < (n : Int) := by omega
          have x3 := hX.at (i := 3) rfl
          have f3 := hX.frozen 3
          go_upto_region 18 with (first
            | (refine bsEl (E := E1) rfl rfl 1 (by simp only [List.map_toArray, List.map_cons, List.map_nil]; rfl) (bs_is1 1) ?_; intro W3 hO5 b3)
            | (at_builtin; refine app_e (E := E1) A1 rfl rfl Try.underlying38 infoInt rfl rfl (hO3.keep b3) rfl hO5.er ?c1 ?c2 (ab_trans hw b3) ?_))
          case c1 => first | omega | (rw [List.length_replicate]; omega) | (simp; omega)
          case c2 => first | omega | (rw [List.length_replicate]; omega) | (simp; omega)
          intro v3 W4 h1 h2 h3
          rw [rep_snoc] at h1
          obtain ⟨q3, c3, hv3⟩ := h1.form
          rw [List.length_replicate] at hv3
          subst hv3
          have hO3' := hO3.keep b3
          have hX4 := blk_keptE (hX.keep b3) hO3' (by decide) h3
          have hO4' := eo_kept (hO4.keep b3) hO3' (by decide) h3
          have hOb' := eo_kept (hOb.keep b3) hO3' (by decide) h3
          clear hX hO3 hO3' hO4 hOb hw h3 x3 f3 hO5
          have y3 := hX4.at (i := 3) rfl
          have g3 := hX4.frozen 3
          go_upto_region 18 with fail
          have hX5 := hX4.set 3 (.slice q3 (m + 1) c3)
          have C5 := chg_set W4 A1.heap.size 3 (.slice q3 (m + 1) c3)
          generalize W4.setCell ⟨A1.heap.size, 3, none⟩ (.slice q3 (m + 1) c3) = W5 at *
          have hX5' : Blk W5 A1.heap.size #[.slice qr k cr, .int .i64 (s : Int), .int .i64 mo, .slice q3 (m + 1) c3, .slice qm m cm, .slice qb (k * s) cb, .slice none 0 0] 106 := by simpa using hX5
          have i1 := eo_chg h1 hX4 (by decide) C5
          have i4 := eo_chg hO4' hX4 (by decide) C5
          have ib := eo_chg hOb' hX4 (by decide) C5
          have w5 := ab_chg h2 C5 (Nat.le_refl _)
          clear hX5 hX4 C5 h1 hO4' hOb' h2 y3 g3
          have x4 := hX5'.at (i := 4) rfl
          have f4 := hX5'.frozen 4
          go_wp2_with (first
            | (refine bsEl (E := ESv) rfl rfl (none, 0, 0) (by simp only [List.map_toArray, List.map_cons, List.map_nil]; rfl) (bs_sv1 (none, 0, 0)) ?_; intro W6 hO6 b6)
            | (at_builtin; refine app_e (E := ESv) A1 rfl rfl Try.underlying103 infoSv rfl rfl (i4.keep b6) rfl hO6.er ?c1 ?c2 (ab_trans w5 b6) ?_))
          case c1 => first | omega | (rw [List.length_replicate]; omega) | (simp; omega)
          case c2 => first | omega | (rw [List.length_replicate]; omega) | (simp; omega)
          intro v4 W7 h1 h2 h3
          rw [rep_snoc] at h1
          obtain ⟨q4, c4, hv4⟩ := h1.form
          rw [List.length_replicate] at hv4
          subst hv4
          have i4' := i4.keep b6
          have hX7 := blk_keptE (hX5'.keep b6) i4' (by decide) h3
          have i1' := eo_kept (i1.keep b6) i4' (by decide) h3
          have ib' := eo_kept (ib.keep b6) i4' (by decide) h3
          clear hX5' i4 i4' i1 ib w5 h3 x4 f4 hO6
          have y4 := hX7.at (i := 4) rfl
          have g4 := hX7.frozen 4
          go_wp2_with fail
          have hX8 := hX7.set 4 (.slice q4 (m + 1) c4)
          have C8 := chg_set W7 A1.heap.size 4 (.slice q4 (m + 1) c4)
          generalize W7.setCell ⟨A1.heap.size, 4, none⟩ (.slice q4 (m + 1) c4) = W8 at *
          have hX8' : Blk W8 A1.heap.size #[.slice qr k cr, .int .i64 (s : Int), .int .i64 mo, .slice q3 (m + 1) c3, .slice q4 (m + 1) c4, .slice qb (k * s) cb, .slice none 0 0] 106 := by simpa using hX8
          have j1 := eo_chg i1' hX7 (by decide) C8
          have j4 := eo_chg h1 hX7 (by decide) C8
          have jb := eo_chg ib' hX7 (by decide) C8
          have w8 := ab_chg h2 C8 (Nat.le_refl _)
          go_roundw
          case rel => exact ⟨m + 1, q3, q4, c3, c4, by omega, by go_num, hX8', j1, j4, jb, w8⟩
          case measure => simp [intOf]; omega
    · obtain ⟨x, hx⟩ : ∃ x, l[k]? = some x := ⟨l[k], List.getElem?_eq_getElem (by omega)⟩
      have z0 := keep_cell hw (hrA k x hx) hgA
      have hx1 : ¬ x < 1 := by have := hl1 x (List.mem_of_getElem? hx); omega
      have hki : (k : Int) < (N : Int) := by omega
      clear hx
      go_wp2_with fail
      go_loopw [13] (fun i wr' => ∃ (j : Nat) (qb : Option Addr) (cb : Nat), j ≤ s ∧ i = .int .i64 (j : Int) ∧ Blk wr' A1.heap.size #[.slice qr N cr, .int .i64 (s : Int), .int .i64 mo, .slice none 0 0, .slice none 0 0, .slice qb (k * s + j) cb, .slice none 0 0] 106 ∧ EO E2 24 wr' A1.heap.size (.slice qb (k * s + j) cb) (List.replicate (k * s + j) lstP) ∧ Below A1.heap.size A1 wr') (fun i _ => s - (intOf i).toNat)
      case atStart => exact ⟨0, qb, cb, by omega, rfl, hX, hOb, hw⟩
      case round =>
        clear hX hOb hw z0
        obtain ⟨j, qb, cb, hj, rfl, hX, hOb, hw⟩ := hrel
        by_cases c1 : j = s
        · subst c1
          go_wp2_with fail
          go_roundw
          case rel => exact ⟨k + 1, qb, cb, by omega, by go_num, by rw [Nat.add_mul, Nat.one_mul]; exact hX, by rw [Nat.add_mul, Nat.one_mul]; exact hOb, hw⟩
          case measure => simp [intOf]; omega
        · have hji : (j : Int) < (s : Int) := by omega
          have hks : k * s + j ≤ 1000 := by
            have : k * s ≤ 3 * 4 := Nat.mul_le_mul (by omega) (by omega)
            omega
          have x5 := hX.at (i := 5) rfl
          have hbl := hX.lt
          go_upto_region 13 with fail
          refine region_L 10 (S := fun w' => w'.cell? ⟨A1.heap.size, 5, none⟩ = some (.slice qb (k * s + j) cb)) (by kernel_rfl) (hX.drew.at rfl) (fun hHeld => ?_)
          have hX0 := hX.drew
          have bdr : Below wr.heap.size wr wr.drew := ab_drew (Below.refl _ _)
          have hOb0 := hOb.keep bdr
          have hw0 := ab_trans hw bdr
          clear x5 hX hOb hw bdr
          generalize wr.drew = V at *
          refine takeP (i := 0) (some 72) (by rfl) rfl rfl (by kernel_rfl) (by kernel_rfl) (by kernel_rfl) (fun _ _ _ h => h) (by rfl) (fun w => by go_simp; try rfl) hHeld ?_
          go_frame
          refine takeP (i := 1) (some 73) (by rfl) rfl rfl (by kernel_rfl) (by kernel_rfl) (by kernel_rfl) (fun _ _ _ h => h) (by rfl) (fun w => by go_simp; try rfl) hHeld ?_
          go_frame
          refine takeP (i := 2) (some 74) (by rfl) rfl rfl (by kernel_rfl) (by kernel_rfl) (by kernel_rfl) (fun _ _ _ h => h) (by rfl) (fun w => by go_simp; try rfl) hHeld ?_
          go_frame
          refine takeP (i := 3) (some 75) (by rfl) rfl rfl (by kernel_rfl) (by kernel_rfl) (by kernel_rfl) (fun _ _ _ h => h) (by rfl) (fun w => by go_simp; try rfl) hHeld ?_
          go_frame
          refine takeL (i := 4) [7, 10] (some 76) (by rfl) rfl rfl (by kernel_rfl) (by kernel_rfl) (by kernel_rfl) (by kernel_rfl) (fun _ _ _ h => h) (by rfl) (fun w hSw => by (try dsimp only at hSw); (have q5 := hSw; go_simp; try rfl)) hHeld ?_
          go_frame
          refine anyL_ready (rs := [5]) (by kernel_rfl) (by simp) (AllL.cons rfl (fun K hK => ?_) AllL.nil)
          go_simp
          refine (rleast_any _).mono ?_
          rintro e W3 ⟨rfl, b3⟩
          show K _ _
          refine hK.out _ _ (keep_cell b3 hHeld hX0.lt) (fun hHeld => ?_)
          clear hK K
          try go_frame
          refine anyL_ready (rs := [6]) (by kernel_rfl) (by simp) (AllL.cons rfl (fun K hK => ?_) AllL.nil)
          rw [if_pos (by rfl)]
          refine bsEW (E := E2) (some 78) rfl rfl lstP (by simp only [List.map_toArray, List.map_cons, List.map_nil]; rfl) (bs_pl1 lstP) fun W4 hO4 b4 => ?_
          have bv4 := ab_trans b3 b4
          have hX4 := hX0.keep bv4
          have hOb4 := hOb0.keep bv4
          have hw4 := ab_trans hw0 bv4
          refine hK.out _ _ (hX4.at rfl) (fun hHeld => ?_)
          clear hK K hX0 hOb0 hw0 bv4 b3 b4
          try go_frame
          refine anyL_ready (rs := [7]) (by kernel_rfl) (by simp) (AllL.cons rfl (fun K hK => ?_) AllL.nil)
          rw [if_pos (by rfl)]
          refine appEW (E := E2) A1 (some 79) rfl rfl Try.underlying73 infoPl2 rfl rfl hOb4 rfl hO4.er (by rw [List.length_replicate, List.length_singleton]; omega) (by rw [List.length_replicate, List.length_singleton]; omega) hw4 fun v' W5 h1 h2 h3 => ?_
          rw [rep_snoc] at h1
          obtain ⟨q', cap', hv'⟩ := h1.form
          rw [List.length_replicate] at hv'
          subst hv'
          have hX5 := blk_keptE hX4 hOb4 (by decide) h3
          refine hK.out _ _ (hX5.at rfl) (fun hHeld => ?_)
          clear hK K hX4 hOb4 hw4 h3 hO4
          try go_frame
          refine takeP (i := 8) (some 80) (by rfl) rfl rfl (by kernel_rfl) (by kernel_rfl) (by kernel_rfl) (fun _ _ _ h => h) (by rfl) (fun w => by go_simp; try rfl) hHeld ?_
          go_frame
          refine takeP (i := 9) (some 81) (by rfl) rfl rfl (by kernel_rfl) (by kernel_rfl) (by kernel_rfl) (fun _ _ _ h => h) (by rfl) (fun w => by go_simp; try rfl) hHeld ?_
          go_frame
          refine anyL_ready (rs := [10]) (by kernel_rfl) (by simp) (AllL.last rfl (by kernel_rfl) (fun K hK => ?_))
          rw [if_pos (by rfl)]
          refine stPs none rfl rfl hX5 rfl rfl rfl fun W6 hX6 C6 => ?_
          have hw6 := ab_chg h2 C6 (Nat.le_refl _)
          have hO6 := eo_chg h1 hX5 (by decide) C6
          refine hK.out _ _ ?_
          clear hK K
          try go_frame
          refine anyL_done (by kernel_rfl) ?_
          have hX6' : Blk W6 A1.heap.size #[.slice qr N cr, .int .i64 (s : Int), .int .i64 mo, .slice none 0 0, .slice none 0 0, .slice q' (k * s + j + 1) cap', .slice none 0 0] 106 := by simpa using hX6
          clear hX6 hX5 h1 h2 C6
          go_wp2_with fail
          go_roundw
          case rel => exact ⟨j + 1, q', cap', by omega, by go_num, hX6', hO6, hw6⟩
          case measure => simp [intOf]; omega
end Go.Proofs.Ytogbhiklhcibdaa
namespace Go.Proofs.Ytogbhiklhcibdaa
open Go.RowKit Go.Maps
set_option linter.unusedVariables false
set_option maxRecDepth 100000

def fdO (ops : List Op5) : List Op5 := ops.zipIdx.map fun x => ⟨(x.2 : Int) + 1, 1, x.1.t, x.1.y, x.1.v⟩
theorem fdO_len (ops : List Op5) : (fdO ops).length = ops.length := by unfold fdO; rw [List.length_map, List.length_zipIdx]
theorem fdO_at (ops : List Op5) (k : Nat) : (fdO ops)[k]? = ops[k]?.map fun o => ⟨(k : Int) + 1, 1, o.t, o.y, o.v⟩ := by
  unfold fdO
  rw [List.getElem?_map, List.getElem?_zipIdx, Option.map_map, Nat.zero_add]
  rfl
theorem fdO_snoc {ops : List Op5} {k : Nat} {o : Op5} (h : ops[k]? = some o) : fdO (ops.take (k + 1)) = fdO (ops.take k) ++ [⟨(k : Int) + 1, 1, o.t, o.y, o.v⟩] := by
  have hk := (List.getElem?_eq_some_iff.1 h).1
  unfold fdO
  rw [List.take_add_one, h, Option.toList_some, List.zipIdx_append, List.map_append, List.length_take, Nat.min_eq_left (by omega), Nat.zero_add]
  rfl
def fdL (ops : List Op5) (mark : Int) : List Op5 := fdO ops ++ [⟨(ops.length : Int) + 1, 2, mark, 0, 0⟩]
theorem fdL_len (ops : List Op5) (mark : Int) : (fdL ops mark).length = ops.length + 1 := by unfold fdL; rw [List.length_append, fdO_len]; rfl
theorem fdO_s {ops : List Op5} {k : Nat} {o : Op5} (h : (fdO ops)[k]? = some o) : o.s = (k : Int) + 1 ∧ o.k = 1 := by
  rw [fdO_at] at h
  cases hx : ops[k]? with
  | none => rw [hx] at h; cases h
  | some x => rw [hx] at h; simp at h; subst h; exact ⟨rfl, rfl⟩
theorem fdL_s {ops : List Op5} {mark : Int} {k : Nat} {o : Op5} (h : (fdL ops mark)[k]? = some o) : o.s = (k : Int) + 1 ∧ (o.k = 1 ∨ o.k = 2) := by
  unfold fdL at h
  by_cases c : k < ops.length
  · rw [List.getElem?_append_left (by rw [fdO_len]; exact c)] at h
    exact ⟨(fdO_s h).1, .inl (fdO_s h).2⟩
  · have hl := (List.getElem?_eq_some_iff.1 h).1
    rw [List.length_append, fdO_len, List.length_singleton] at hl
    have : k = ops.length := by omega
    subst this
    rw [List.getElem?_append_right (by rw [fdO_len]; exact Nat.le_refl _), fdO_len, Nat.sub_self] at h
    simp at h
    subst h
    exact ⟨rfl, .inr rfl⟩
theorem fdL_form (ops : List Op5) (mark : Int) : infO (fdL ops mark) 1 ((ops.length : Int) + 1) := by
  refine ⟨fun o ho => ?_, ?_⟩
  · obtain ⟨k, hk⟩ := List.mem_iff_getElem?.1 ho
    have hl := (List.getElem?_eq_some_iff.1 hk).1
    rw [fdL_len] at hl
    obtain ⟨h1, h2⟩ := fdL_s hk
    exact ⟨h2, by omega, by omega⟩
  · rw [List.pairwise_iff_getElem]
    intro i j hi hj hij
    have h1 := (fdL_s (List.getElem?_eq_getElem hi)).1
    have h2 := (fdL_s (List.getElem?_eq_getElem hj)).1
    omega
theorem fdL_fit {ops : List Op5} {mark : Int} (hf : ∀ o ∈ ops, Fit5 o) (hm : J64 mark) (hn : ops.length ≤ 150) : ∀ o ∈ fdL ops mark, Fit5 o := by
  intro o ho
  unfold fdL at ho
  rcases List.mem_append.1 ho with ho | ho
  · obtain ⟨k, hk⟩ := List.mem_iff_getElem?.1 ho
    have hl := (List.getElem?_eq_some_iff.1 hk).1
    rw [fdO_len] at hl
    rw [fdO_at, List.getElem?_eq_getElem hl] at hk
    simp at hk
    subst hk
    have h := hf _ (List.getElem_mem hl)
    exact ⟨by show J64 ((k : Int) + 1); unfold J64; omega, by show J64 1; unfold J64; omega, h.t, h.y, h.v⟩
  · rw [List.mem_singleton.1 ho]
    exact ⟨by show J64 ((ops.length : Int) + 1); unfold J64; omega, by show J64 2; unfold J64; omega, hm, by show J64 0; unfold J64; omega, by show J64 0; unfold J64; omega⟩
/-- The program's basin, fed; raised. -/
def bf17 (r mark : Int) (ops : List Op5) : Bsn := fdZ (newBsn 1 [r] 2 1024) 0 ((ops.length : Int) + 1) [lstP, lstP] (fdL ops mark)
def raS (S : Bsn) (p : Int × Int) : Nat → Bsn
  | 0 => S
  | k + 1 => drpB (lifB (raS S p k) k p)
def bs17 (r mark : Int) (base : Int × Int) (ops : List Op5) : Bsn := raS (bf17 r mark ops) base 2
def BsE (B : Nat) (e : Ending) (w' : World) (S : Bsn) : Prop := ∃ (K : Bkk) (K' : Rk) (R : R6), e = .returned (.tuple #[bptr K, r6ptr K', .bool true]) ∧ Bq w' B K S ∧ Rq w' B K' R ∧ Sim S R
/-- The same, and how much was taken. -/
def BsE2 (B : Nat) (e : Ending) (w' : World) (S : Bsn) : Prop := ∃ (K : Bkk) (K' : Rk) (R : R6), e = .returned (.tuple #[bptr K, r6ptr K', .bool true]) ∧ Bq w' B K S ∧ Rq w' B K' R ∧ Sim S R ∧ R.tk.length ≤ 2000
theorem rq_less {W : World} {B B' : Nat} {K : Rk} {R : R6} (h : Rq W B K R) (hb : B' ≤ B) : Rq W B' K R :=
  ⟨h.blk, Nat.le_trans hb h.ge, own_less h.re hb, h.ne, Nat.le_trans hb h.gen, h.me, Nat.le_trans hb h.gem, h.ml, fun j u l hu hl => own_less (h.ms j u l hu hl) hb, h.be, Nat.le_trans hb h.geb, own_less h.te hb, h.dr, h.dn, h.du, h.dd⟩
theorem eo_staysR {α : Type} {E : En α} {e : TypeId} {X : Nat → Prop} {w : World} {B : Nat} {v : Value} {l : List α} (h : EO E e w B v l) (hx : ∀ k, X k → k < B) : ∀ V, Frm X w V → ER E V v l := fun V hV =>
  (show EO E e V B v l from own_at h (fun g hg => hV.other g (World.ownsRow.lt h g hg).2 (fun e1 => by have := hx g e1; have := (World.ownsRow.lt h g hg).1; omega))).er
theorem bs_pl2 (w : World) : (Instr.buildSlice 73 2 #[(0, Plc (-9223372036854775808) (-9223372036854775808)), (1, Plc (-9223372036854775808) (-9223372036854775808))]).run Try.prog w = .ok (.slice (some ⟨w.heap.size, 0, none⟩) 2 2) (w.alloc (.cells (E2.fl [lstP, lstP]).toArray 24)) := by kernel_rfl
theorem bsP2 {ops : Array Oper} {rest : List Oper} {o : Oper} {a : Act} {w : World} {Q : Exit → Act → World → Prop} (hw : Region.wanted o (yielded ops a.tmps) = true) {parts : Array (Nat × Operand)} (ho : o.op = .buildSlice 73 2 parts)
    (hl : parts.map (fun (i, x) => (i, a.eval x)) = #[(0, Plc (-9223372036854775808) (-9223372036854775808)), (1, Plc (-9223372036854775808) (-9223372036854775808))])
    (h : ∀ W', EO E2 24 W' w.heap.size (.slice (some ⟨w.heap.size, 0, none⟩) 2 2) [lstP, lstP] → Below w.heap.size w W' → wpList Try.prog ops Q rest (a.put o.dst (.slice (some ⟨w.heap.size, 0, none⟩) 2 2)) W') : wpList Try.prog ops Q (o :: rest) a w := by
  unfold wpList
  rw [if_pos hw]
  left
  unfold Oper.wp execOp
  simp only [ho, Sem.run_bind, hl, bs_pl2, Result.andThen_ok]
  exact h _ (eo_of (n := 2) (own_blkE (xs := E2.fl [lstP, lstP]) (Blk.new _ _ _) (Nat.le_refl _) (by rfl) (by unfold maxLen; omega))) ((Below.refl _ _).alloc (Nat.le_refl _) _)
theorem bs_op0 (w : World) : (Instr.buildSlice 22 0 #[]).run Try.prog w = .ok (.slice (some ⟨w.heap.size, 0, none⟩) 0 0) (w.alloc (.cells #[] 35)) := by kernel_rfl
theorem basins_no (v : Value) (ops : List Op5) (r mark : Int) (base : Int × Int) (w : World) (hv : ER E5 w v ops) (hn : r < 1 ∨ 150 < ops.length) :
    Calls Try.prog 5 #[.agg #[v, .int .i64 r, .int .i64 mark, .int .i64 base.1, .int .i64 base.2]] w fun e w' => e = .returned (.tuple #[.pointer none, .pointer none, .bool false]) ∧ Below w.heap.size w w' := by
  obtain ⟨q, cap, ev⟩ := hv.form
  subst ev
  clear hv
  generalize ops.length = n at *
  obtain ⟨A, hE, hX, hw⟩ := blk1 w #[.slice q n cap, .int .i64 r, .int .i64 mark, .int .i64 base.1, .int .i64 base.2] 26
  have x0 := hX.at (i := 0) rfl
  have x1 := hX.at (i := 1) rfl
  clear hX
  by_cases c1 : r < 1
  · go_enter Try.func5, Try.ntmps5
    go_wp2_with fail
    exact bodyPost_ret (v := .tuple #[.pointer none, .pointer none, .bool false]) (by simp [results, Try.results5, go_sem]) rfl ⟨rfl, hw⟩
  · have c2 : (150 : Int) < (n : Int) := by omega
    go_enter Try.func5, Try.ntmps5
    go_wp2_with fail
    exact bodyPost_ret (v := .tuple #[.pointer none, .pointer none, .bool false]) (by simp [results, Try.results5, go_sem]) rfl ⟨rfl, hw⟩
theorem eqNilB (b : Nat) (w : World) : (binOp .eql 28 (.pointer (some ⟨b, 0, none⟩)) (.pointer none)).run Try.prog w = .ok (.bool false) w := by kernel_rfl
set_option maxHeartbeats 4000000 in
theorem basins_yes2 (v : Value) (ops : List Op5) (r mark : Int) (base : Int × Int) (w : World) (hv : ER E5 w v ops) (hf : ∀ o ∈ ops, Fit5 o) (hr : 1 ≤ r ∧ r ≤ 9223372036854775807) (hm : J64 mark) (hb : J64 base.1 ∧ J64 base.2) (hn : ops.length ≤ 150) :
    Calls Try.prog 5 #[.agg #[v, .int .i64 r, .int .i64 mark, .int .i64 base.1, .int .i64 base.2]] w fun e w' => BsE2 w.heap.size e w' (bs17 r mark base ops) ∧ Below w.heap.size w w' := by
  have HOK : Hid (newOK ((1 : Nat) : Int) [r] 2 1024 = true) := newOK_iff.2 ⟨by decide, goodR_iff.2 ⟨fun x hx => by rw [List.mem_singleton.1 hx]; exact hr.1, ⟨by simp, by simp⟩, by decide⟩, by decide⟩
  have HR : Hid (∀ x ∈ [r], x ≤ 9223372036854775807) := fun x hx => by rw [List.mem_singleton.1 hx]; exact hr.2
  have HV : Hid (∀ V, Below w.heap.size w V → ER E5 V v ops) := fun V hb => hv.keep hb
  have HFit : Hid (∀ o ∈ fdL ops mark, Fit5 o) := fdL_fit hf hm hn
  have HJb : Hid (J64 base.1 ∧ J64 base.2) := hb
  have HForm : Hid (infO (fdL ops mark) 1 ((ops.length : Int) + 1)) := fdL_form ops mark
  have HLl : Hid ((fdL ops mark).length = ops.length + 1) := fdL_len ops mark
  have HLd : Hid (fdL ops mark = fdO ops ++ [⟨(ops.length : Int) + 1, 2, mark, 0, 0⟩]) := rfl
  have HBf : Hid (bf17 r mark ops = fdZ (newBsn 1 [r] 2 1024) 0 ((ops.length : Int) + 1) [lstP, lstP] (fdL ops mark)) := rfl
  have HBs : Hid (bs17 r mark base ops = raS (bf17 r mark ops) base 2) := rfl
  obtain ⟨q, cap, ev⟩ := hv.form
  subst ev
  obtain ⟨q', cap', gv, off, eq', hc1, hc2, hp, hrv⟩ := hv.at
  injection eq' with e1 _ e3
  subst e1 e3
  clear hv hf hm hb
  obtain ⟨b0, b1⟩ := base
  try dsimp only at HJb
  have hon : (fdO ops).length = ops.length := fdO_len ops
  have HOs : Hid (∀ k o, ops[k]? = some o → fdO (ops.take (k + 1)) = fdO (ops.take k) ++ [⟨(k : Int) + 1, 1, o.t, o.y, o.v⟩]) := fun k o h => fdO_snoc h
  have HOk : Hid (∀ k, (fdO (ops.take k)).length ≤ 150) := fun k => by rw [fdO_len, List.length_take]; omega
  have HOf : Hid (fdO (ops.take ops.length) = fdO ops) := by show _ = _; rw [List.take_length]
  generalize hno : ops.length = n at *
  obtain ⟨A, hE, hX, hw⟩ := blk1 w #[.slice q n cap, .int .i64 r, .int .i64 mark, .int .i64 b0, .int .i64 b1] 26
  have hbx := hX.lt
  have x0 : A.cell? ⟨w.heap.size, 0, none⟩ = some (.slice q n cap) := hX.at rfl
  have x1 : A.cell? ⟨w.heap.size, 1, none⟩ = some (.int .i64 r) := hX.at rfl
  have c1 : ¬ r < 1 := by omega
  have c2 : ¬ (150 : Int) < (n : Int) := by omega
  have Hne := ne00r
  have HX : Hid (∀ V, Below A.heap.size A V → Blk V w.heap.size #[.slice q n cap, .int .i64 r, .int .i64 mark, .int .i64 b0, .int .i64 b1] 26 ∧ Below w.heap.size w V) := fun V hb => ⟨hX.keep hb, ab_trans hw hb⟩
  clear hX hw hr
  have HNw : ∀ (V : World) (u : Value), Is V u [r] → Calls Try.prog 15 #[.int .i64 1, u, .int .i64 2, .int .i64 1024] V fun e w' => NewE e w' V.heap.size (newBsn 1 [r] 2 1024) ∧ Below V.heap.size V w' := fun V u h => banew_ok 1 u [r] 2 1024 V h HR.out HOK.out
  have HNr : ∀ (V : World) (u : Value), Is V u [r] → Calls Try.prog 16 #[.int .i64 1, u, .int .i64 2, .int .i64 1024] V fun e w' => ∃ K, e = .returned (.tuple #[r6ptr K, .int .i64 0]) ∧ Rq w' V.heap.size K (newR6 1 [r] 2 1024) ∧ Below V.heap.size V w' := fun V u h => rnew16_ok 1 2 u [r] 1024 V h HOK.out
  go_enter Try.func5, Try.ntmps5
  go_upto_region 4 with fail
  have hIs : Is (A.alloc (.cells #[.int .i64 r] 3)) (.slice (some ⟨A.heap.size, 0, none⟩) 1 1) [r] := (eo1_io (eo_single (E := E1) (x := r) (Blk.new A #[.int .i64 r] 3))).is
  refine (HNw _ _ hIs).mono ?_
  rintro e W2 ⟨⟨K, rfl, hB2⟩, b2⟩
  have b2A : Below A.heap.size A W2 := ab_trans ((Below.refl A.heap.size A).alloc (Nat.le_refl _) _) b2
  have z1 : W2.cell? ⟨w.heap.size, 1, none⟩ = some (.int .i64 r) := (HX.out W2 b2A).1.at rfl
  clear HNw x1 b2 x0
  go_upto_region 5 with (go_at_call 16; refine (HNr _ _ (eo1_io (eo_single (E := E1) (x := r) (Blk.new W2 _ _))).is).mono ?_; rintro e W4 ⟨K', rfl, hR4, b4⟩)
  have b3 : Below W2.heap.size W2 (W2.alloc (.cells (E1.f r).toArray 3)) := (Below.refl _ _).alloc (Nat.le_refl _) _
  have b4A := ab_trans b2A (ab_trans b3 b4)
  have hB4 := hB2.keep (ab_trans b3 b4)
  have hBo : OldK W2.heap.size K := hB2.aged
  have hbk : ∀ k, bkB K k → k < W2.heap.size := fun k hk => (hB2.bks hk).2
  have hR4' := rq_less hR4 b3.size
  have hs2 : w.heap.size ≤ W2.heap.size := (HX.out W2 b2A).2.size
  have hAB : A.heap.size ≤ W2.heap.size := b2A.size
  clear HNr z1 b3 b4 b2A hR4 hB2
  have HNil := eqNilB K.b
  go_upto_region 8 with (refine bsE0 (E := E5) rfl rfl (by simp) bs_op0 ?_; intro W5 hO5 b5)
  clear HNil Hne
  have y0 : W5.cell? ⟨w.heap.size, 0, none⟩ = some (.slice q n cap) := (HX.out W5 (ab_trans b4A b5)).1.at rfl
  have hs24 : W2.heap.size ≤ W4.heap.size := Nat.le_trans hR4'.ge (Nat.le_of_lt hR4'.blk.lt)
  have hwx : w.heap.size < W2.heap.size := Nat.lt_of_lt_of_le hbx hAB
  have HK4 : Hid (∀ V, Below W4.heap.size W4 V → Bq V (A.heap.size + 1) K (newBsn 1 [r] 2 1024) ∧ Rq V W2.heap.size K' (newR6 1 [r] 2 1024) ∧ Below A.heap.size A V) := fun V hb => ⟨by have := hB4.keep hb; simpa using this, hR4'.keep hb, ab_trans b4A hb⟩
  have HBk : Hid ((∀ k, bkB K k → k < W2.heap.size) ∧ OldK W2.heap.size K ∧ w.heap.size ≤ A.heap.size + 1) := ⟨hbk, hBo, by omega⟩
  have HRk : Hid (∀ k, rkB K' k → k < W4.heap.size) := fun k hk => (hR4'.lt hk).2
  clear hB4 hR4' b4A hbk hBo hs2
  have hwx' : w.heap.size < W2.heap.size := hwx
  have hbA : w.heap.size < A.heap.size := hbx
  generalize hbxe : w.heap.size = bx at y0 hwx hbA
  have HXx : Hid (∀ V, Below A.heap.size A V → Blk V bx #[.slice q n cap, .int .i64 r, .int .i64 mark, .int .i64 b0, .int .i64 b1] 26 ∧ Below w.heap.size w V) := fun V hb => by rw [← hbxe]; exact HX.out V hb
  clear hE HX hbx
  have hcl := hc1
  go_wp2_with fail
  go_loopw [9, 51] (fun x z wr => ∃ k : Nat, k ≤ n ∧ z = .int .i64 (k : Int) ∧ EO E5 35 wr W4.heap.size x (fdO (ops.take k)) ∧ Below W4.heap.size W4 wr) (fun _ z _ => n - (intOf z).toNat)
  case atStart => exact ⟨0, by omega, rfl, hO5, b5⟩
  case round =>
    clear y0 hO5 b5
    obtain ⟨k, hk, rfl, hO, hb⟩ := hrel
    by_cases ck : k = n
    · have ck' : n = k := ck.symm
      subst ck'
      rw [HOf.out] at hO
      obtain ⟨ql, cl, el⟩ := hO.form
      rw [hon] at el
      subst el
      have u2 : wr.cell? ⟨bx, 2, none⟩ = some (.int .i64 mark) := (HXx.out wr (HK4.out wr hb).2.2).1.at rfl
      have HO : Hid (∀ V, Below wr.heap.size wr V → EO E5 35 V W4.heap.size (.slice ql n cl) (fdO ops)) := fun V hv => hO.keep hv
      clear hO
      go_upto_region 14 with (first
        | (refine bsEl (E := E5) rfl rfl ⟨(n : Int) + 1, 2, mark, 0, 0⟩ (by simp only [List.map_toArray, List.map_cons, List.map_nil]; rfl) (bs_op1 ⟨(n : Int) + 1, 2, mark, 0, 0⟩) ?_; intro W6 hO6 b6)
        | (at_builtin; refine app_e (E := E5) W4 rfl rfl Try.underlying22 infoOp5 rfl rfl (HO.out _ b6) rfl hO6.er ?c1 ?c2 (ab_trans hb b6) ?_))
      case c1 => omega
      case c2 => omega
      intro v7 W7 hO7 b7 hg7
      rw [← HLd.out] at hO7
      obtain ⟨q7, c7, e7⟩ := hO7.form
      rw [HLl.out] at e7
      subst e7
      have bL : Below W7.heap.size W7 W7 := Below.refl _ _
      clear HO hg7 hO6 b6 u2
      have hn1 : (n : Int) + 1 ≤ 151 := by omega
      go_upto_region 15 with (first
        | (go_at_call 14; refine (rleast_any _).mono ?_; rintro e Wl ⟨rfl, bl⟩; have bL := ab_trans bL bl; clear bl)
        | (refine bsP2 rfl rfl (by simp only [List.map_toArray, List.map_cons, List.map_nil]; rfl) ?_; intro W8 hC8 b8))
      have b78 := ab_trans bL b8
      have hO8 := hO7.keep b78
      have b48 := ab_trans b7 b78
      have h78 : W4.heap.size ≤ W7.heap.size := b7.size
      obtain ⟨hB8, hR8, bA8⟩ := HK4.out W8 b48
      have hbl8 : W4.heap.size ≤ W8.heap.size := b48.size
      have hst : Stay E2 K W8 (.slice (some ⟨Wl.heap.size, 0, none⟩) 2 2) [lstP, lstP] := stay_eo2 hC8 (fun k hk => Nat.lt_of_lt_of_le (HBk.out.1 k hk) (by have := bL.size; omega))
      have hsO : Stay E5 K W8 (.slice q7 (n + 1) c7) (fdL ops mark) := stay_eo2 hO8 (fun k hk => Nat.lt_of_lt_of_le (HBk.out.1 k hk) hs24)
      have hFd := bafeed_ok (S := newBsn 1 [r] 2 1024) 0 1 ((n : Int) + 1) _ _ [lstP, lstP] (fdL ops mark) W8 hB8 hst hsO ⟨⟨by omega, by show (0 : Int) < 1; omega⟩, by rfl, by unfold wrap64; omega, HForm.out⟩ (f := newFl) rfl rfl (fun p hp => by simp at hp; subst hp; unfold lstP J64; dsimp only; omega) HFit.out (by unfold J64; omega)
      rw [← HBf.out] at hFd
      have hxk : ∀ k, bkB K k → k < W2.heap.size := HBk.out.1
      have HC9 : Hid (EO E2 24 W8 Wl.heap.size (.slice (some ⟨Wl.heap.size, 0, none⟩) 2 2) [lstP, lstP] ∧ EO E5 35 W8 W4.heap.size (.slice q7 (n + 1) c7) (fdL ops mark) ∧ Rq W8 W2.heap.size K' (newR6 1 [r] 2 1024) ∧ Blk W8 bx #[.slice q n cap, .int .i64 r, .int .i64 mark, .int .i64 b0, .int .i64 b1] 26 ∧ Below w.heap.size w W8) := ⟨hC8, hO8, hR8, (HXx.out W8 bA8).1, (HXx.out W8 bA8).2⟩
      have hWl : W4.heap.size ≤ Wl.heap.size := by have := bL.size; omega
      have hB8k : ∀ k, bkB K k → A.heap.size + 1 ≤ k := fun k hk => (hB8.bks hk).1
      have hB8s : A.heap.size + 1 ≤ W8.heap.size := Nat.le_trans hB8.ge (Nat.le_of_lt hB8.blk.lt)
      clear hC8 hO8 hR8 hB8 bA8 hst hsO b78 bL b8 hO7 b7 b48
      go_upto_region 16 with (go_at_call 17; refine hFd.mono ?_; rintro e W9 ⟨rfl, hB9, hF9⟩)
      obtain ⟨hC8, hO8, hR8, hX8, hw8⟩ := HC9.out
      have hC9 : EO E2 24 W9 Wl.heap.size (.slice (some ⟨Wl.heap.size, 0, none⟩) 2 2) [lstP, lstP] := own_at hC8 (fun g hg => hF9.other g (World.ownsRow.lt hC8 g hg).2 (fun e => by have := hxk g e; have := (World.ownsRow.lt hC8 g hg).1; omega))
      have hO9 : EO E5 35 W9 W4.heap.size (.slice q7 (n + 1) c7) (fdL ops mark) := own_at hO8 (fun g hg => hF9.other g (World.ownsRow.lt hO8 g hg).2 (fun e => by have := hxk g e; have := (World.ownsRow.lt hO8 g hg).1; omega))
      have hR9 := hR8.frm hF9 hxk
      have hX9 := hX8.frm hF9 (fun e => by have := hB8k bx e; omega)
      have hw9 : Below w.heap.size w W9 := hw8.trans (hF9.below (Nat.le_trans HBk.out.2.2 hB8s) (fun k hk => Nat.le_trans HBk.out.2.2 (hB8k k hk)))
      have hokS : Okb (newBsn 1 [r] 2 1024) := okb_new HOK.out HR.out
      have hRK : ∀ k, rkB K' k → W2.heap.size ≤ k := fun k hk => (hR9.lt hk).1
      have hW9 : W2.heap.size ≤ W9.heap.size := Nat.le_trans hR9.ge (Nat.le_of_lt hR9.blk.lt)
      have hrF := rfeed16_ok (R := newR6 1 [r] 2 1024) 0 1 ((n : Int) + 1) _ _ [lstP, lstP] (fdL ops mark) W9 hR9 hW9 (eo_staysR hC9 (fun k hk => Nat.lt_of_lt_of_le (HRk.out k hk) hWl)) (eo_staysR hO9 HRk.out) (sim_okR (sim_new 1 [r] 2 1024) hokS) (by rfl) (by unfold wrap64; omega) HForm.out (by rfl) HFit.out (by rw [HLl.out]; show 0 + 3 * (n + 1) ≤ 100000; omega) (fun l hl => by rw [HLl.out, List.eq_of_mem_replicate hl]; show 0 + (n + 1) ≤ 100000; omega)
      have hSm := sim_feed (sim_new 1 [r] 2 1024) hokS (i := 0) (by show 0 < 1; omega) (cut := [lstP, lstP]) (ops := fdL ops mark) ((n : Int) + 1) (by rfl) (fun p hp => by simp at hp; subst hp; unfold lstP J64; dsimp only; omega) HFit.out (by rw [HLl.out]; show 0 + 3 * (n + 1) ≤ 2000; omega)
      obtain ⟨-, hSm, hSl⟩ := hSm
      have hSl : (fdZ6 (newR6 1 [r] 2 1024) 0 ((n : Int) + 1) [lstP, lstP] (fdL ops mark)).tk.length ≤ 600 := by rw [HLl.out] at hSl; have : (newR6 1 [r] 2 1024).tk.length = 0 := rfl; omega
      rw [← HBf.out] at hSm
      have hFk := fd_kept (S := newBsn 1 [r] 2 1024) (i := 0) (la := (n : Int) + 1) (cut := [lstP, lstP]) HForm.out (by show 0 < 1; omega)
      rw [← HBf.out] at hFk
      have hba : (bf17 r mark ops).ba.length = 2 := by
        have h1 := hB9.ok.bl
        rw [hFk.res, hFk.sh] at h1
        have h2 : ((newBsn 1 [r] 2 1024).res.length : Int) * (newBsn 1 [r] 2 1024).sh = 2 := by rfl
        omega
      clear hFk hokS hX8 hw8 hO8 hC8 hR8 hF9
      generalize fdZ6 (newR6 1 [r] 2 1024) 0 ((n : Int) + 1) [lstP, lstP] (fdL ops mark) = R1 at *
      generalize bf17 r mark ops = S1 at *
      generalize fdE6 (fdR6 (newR6 1 [r] 2 1024) 0 [lstP, lstP] (fdL ops mark)) = e6 at *
      obtain ⟨rb, gn, cn, gm, cm, gb, cb, vr, vt0, us0⟩ := K'
      try dsimp only at hrF
      go_upto_region 17 with (go_at_call 18; refine hrF.mono ?_; rintro e Wa ⟨vt1, us1, rfl, hRa, hFa⟩)
      have hBa := hB9.oldf HBk.out.2.1 hFa hRK
      have hXa := hX9.frm hFa (fun e => by have := hRK bx e; omega)
      have hwa : Below w.heap.size w Wa := hw9.trans (hFa.below (Nat.le_trans (Nat.le_of_lt hwx') hW9) (fun k hk => Nat.le_trans (Nat.le_of_lt hwx') (hRK k hk)))
      clear hB9 hX9 hw9 hFa hR9 hC9 hO9 hrF HC9 HK4 HXx
      go_wp2_with fail
      go_loopw [93] (fun z wr => ∃ (k : Nat) (vt : Value) (us : List Sv) (R' : R6), k ≤ 2 ∧ z = .int .i64 (k : Int) ∧ Bq wr (A.heap.size + 1) K (raS S1 (b0, b1) k) ∧ Rq wr W2.heap.size ⟨rb, gn, cn, gm, cm, gb, cb, vr, vt, us⟩ R' ∧ Sim (raS S1 (b0, b1) k) R' ∧ R'.tk.length ≤ 600 ∧ (raS S1 (b0, b1) k).ba.length = 2 ∧ Blk wr bx #[.slice q n cap, .int .i64 r, .int .i64 mark, .int .i64 b0, .int .i64 b1] 26 ∧ Below w.heap.size w wr) (fun z _ => 2 - (intOf z).toNat)
      case atStart => exact ⟨0, vt1, us1, R1, by omega, rfl, hBa, hRa, hSm, hSl, hba, hXa, hwa⟩
      case round =>
        clear hBa hRa hSm hSl hba hXa hwa
        obtain ⟨k, vt, us, R', hk, rfl, hBa, hRa, hSm, hSl, hba, hXa, hwa⟩ := hrel
        by_cases ck : k = 2
        · subst ck
          have HEnd : Hid (BsE2 w.heap.size (.returned (.tuple #[bptr K, r6ptr ⟨rb, gn, cn, gm, cm, gb, cb, vr, vt, us⟩, .bool true])) wr (bs17 r mark (b0, b1) ops)) := by
            rw [HBs.out]
            exact ⟨K, _, R', rfl, hBa.less HBk.out.2.2, rq_less hRa (Nat.le_of_lt hwx'), hSm, by omega⟩
          clear hBa hRa hSm hXa
          go_wp2_with fail
          go_ret3
          exact ⟨HEnd.out, hwa⟩
        · have hk2 : k < 2 := by omega
          have hki : (k : Int) < 2 := by omega
          obtain ⟨c, hc⟩ : ∃ c, (raS S1 (b0, b1) k).ba[k]? = some c := ⟨(raS S1 (b0, b1) k).ba[k]'(by omega), List.getElem?_eq_getElem (by omega)⟩
          have hSn := sim_rai hSm hBa.ok (p := (b0, b1)) hc
          have HSn : Hid (Sim (raS S1 (b0, b1) (k + 1)) (raiR R' k (b0, b1)) ∧ (raiR R' k (b0, b1)).tk.length ≤ 600 ∧ (raS S1 (b0, b1) (k + 1)).ba.length = 2) := ⟨hSn, Nat.le_trans (kpR_rai R' k (b0, b1)).2.1 hSl, by
            show (lifB (raS S1 (b0, b1) k) k (b0, b1)).ba.length = 2
            rw [lifB_at hc, List.length_set]
            exact hba⟩
          have HRs : Hid (raS S1 (b0, b1) (k + 1) = drpB (lifB (raS S1 (b0, b1) k) k (b0, b1))) := rfl
          have hrba : k < R'.ba.length := by rw [hSm.ba]; omega
          have hxk := HBk.out.1
          have u3 : wr.cell? ⟨bx, 3, none⟩ = some (.int .i64 b0) := hXa.at rfl
          have u4 : wr.cell? ⟨bx, 4, none⟩ = some (.int .i64 b1) := hXa.at rfl
          have hRs1 := baraise_ok k (b0, b1) wr hBa (by omega) HJb.out
          have hB8k2 := fun (k : Nat) (h : bkB K k) => (hBa.bks h).1
          have hsW := (hRa.blk.lt)
          go_upto_region 21 with (go_at_call 13; refine hRs1.mono ?_; rintro e Wb ⟨rfl, hBb, hFb⟩)
          have hRb := hRa.frm hFb hxk
          have hXb := hXa.frm hFb (fun e => by have := hB8k2 bx e; omega)
          have hwb : Below w.heap.size w Wb := hwa.trans (hFb.below hwa.size (fun k hk => Nat.le_trans HBk.out.2.2 (hB8k2 k hk)))
          have v3 : Wb.cell? ⟨bx, 3, none⟩ = some (.int .i64 b0) := hXb.at rfl
          have v4 : Wb.cell? ⟨bx, 4, none⟩ = some (.int .i64 b1) := hXb.at rfl
          have hRs2 := rraise16_any k (b0, b1) Wb hRb (Nat.le_trans hRb.ge (Nat.le_of_lt hRb.blk.lt)) hrba (by omega)
          clear u3 u4 hRs1 hFb hBa hXa hwa hSn hc
          go_wp2_with (go_at_call 19; refine hRs2.mono ?_; rintro e Wc ⟨vt2, n2, rfl, hRc, hFc⟩)
          have hge : ∀ k, (k = rb ∨ k = gb) → W2.heap.size ≤ k := fun k hk => by rcases hk with rfl | rfl; exact hRb.ge; exact hRb.geb
          have hBc := hBb.oldf HBk.out.2.1 hFc hge
          have hXc := hXb.frm hFc (fun e => by have := hge bx e; omega)
          have hwc : Below w.heap.size w Wc := hwb.trans (hFc.below hwb.size (fun k hk => Nat.le_trans (Nat.le_of_lt hwx') (hge k hk)))
          go_roundw
          case rel => exact ⟨k + 1, vt2, us, _, by omega, by go_num, by rw [HRs.out]; exact hBc, hRc, HSn.out.1, HSn.out.2.1, HSn.out.2.2, hXc, hwc⟩
          case measure => simp [intOf]; omega
    · obtain ⟨o, ho⟩ : ∃ o, ops[k]? = some o := ⟨ops[k]'(by omega), List.getElem?_eq_getElem (by omega)⟩
      obtain ⟨rfl, hgv⟩ := hp (by omega)
      obtain ⟨hX3, hw3⟩ := HXx.out wr (HK4.out wr hb).2.2
      have hki : (k : Int) < (n : Int) := by omega
      have hk1 : (k : Int) + 1 ≤ 151 := by omega
      have z0 := keep_cell hw3 (hrv k o ho 0 _ rfl) hgv
      have z1 := keep_cell hw3 (hrv k o ho 1 _ rfl) hgv
      have z2 := keep_cell hw3 (hrv k o ho 2 _ rfl) hgv
      have z3 := keep_cell hw3 (hrv k o ho 3 _ rfl) hgv
      have z4 := keep_cell hw3 (hrv k o ho 4 _ rfl) hgv
      rw [Nat.add_zero, show E5.k = 5 from rfl] at z0
      rw [show E5.k = 5 from rfl] at z1 z2 z3 z4
      have HSn := HOs.out k o ho
      have HSn : Hid (fdO (ops.take (k + 1)) = fdO (ops.take k) ++ [⟨(k : Int) + 1, 1, o.t, o.y, o.v⟩]) := HSn
      have hlk := HOk.out k
      generalize fdO (ops.take k) = l at *
      obtain ⟨ql, cl, el⟩ := hO.form
      subst el
      have hO' := hO
      clear hO
      generalize hll : l.length = ll at *
      obtain ⟨os, ok, ot, oy, ov⟩ := o
      try dsimp only at z0 z1 z2 z3 z4 HSn
      clear ho hrv hp
      go_upto_region 11 with (first
        | (refine al_blk rfl rfl (opA ⟨0, 0, 0, 0, 0⟩) (op_zero _) ?_; intro W6 e6 hX6 b6; clear e6)
        | (refine st_blk rfl rfl hX6 rfl (vs := opA ⟨os, ok, ot, oy, ov⟩) rfl (infoO5 ⟨os, ok, ot, oy, ov⟩) rfl (opA_one _) ?_; intro W7 hX7 C7))
      have b67 := ab_chg b6 C7 (Nat.le_refl _)
      have a2 : W7.cell? ⟨wr.heap.size, 2, none⟩ = some (.int .i64 ot) := hX7.at rfl
      have a3 : W7.cell? ⟨wr.heap.size, 3, none⟩ = some (.int .i64 oy) := hX7.at rfl
      have a4 : W7.cell? ⟨wr.heap.size, 4, none⟩ = some (.int .i64 ov) := hX7.at rfl
      have hO7 := hO'.keep b67
      have hb7 := ab_trans hb b67
      clear z0 z1 z2 z3 z4 hX6 C7 b6 hO'
      go_wp2_with (first
        | (refine bsEl (E := E5) rfl rfl ⟨(k : Int) + 1, 1, ot, oy, ov⟩ (by simp only [List.map_toArray, List.map_cons, List.map_nil]; rfl) (bs_op1 ⟨(k : Int) + 1, 1, ot, oy, ov⟩) ?_; intro W8 hO8 b8)
        | (at_builtin; refine app_e (E := E5) W4 rfl rfl Try.underlying22 infoOp5 rfl rfl (hO7.keep b8) rfl hO8.er ?c1 ?c2 (ab_trans hb7 b8) ?_))
      case c1 => omega
      case c2 => omega
      intro v9 W9 h1 h2 h3
      go_wp2_with fail
      go_roundw
      case rel => exact ⟨k + 1, by omega, by go_num, by rw [HSn.out]; exact h1, h2⟩
      case measure => simp [intOf]; omega
theorem basins_yes (v : Value) (ops : List Op5) (r mark : Int) (base : Int × Int) (w : World) (hv : ER E5 w v ops) (hf : ∀ o ∈ ops, Fit5 o) (hr : 1 ≤ r ∧ r ≤ 9223372036854775807) (hm : J64 mark) (hb : J64 base.1 ∧ J64 base.2) (hn : ops.length ≤ 150) :
    Calls Try.prog 5 #[.agg #[v, .int .i64 r, .int .i64 mark, .int .i64 base.1, .int .i64 base.2]] w fun e w' => BsE w.heap.size e w' (bs17 r mark base ops) ∧ Below w.heap.size w w' :=
  (basins_yes2 v ops r mark base w hv hf hr hm hb hn).mono fun e w' ⟨⟨K, K', R, h1, h2, h3, h4, _⟩, h6⟩ => ⟨⟨K, K', R, h1, h2, h3, h4⟩, h6⟩
end Go.Proofs.Ytogbhiklhcibdaa
namespace Go.Proofs.Ytogbhiklhcibdaa
open Go.RowKit
set_option linter.unusedVariables false
set_option maxRecDepth 100000

def mnK (l : List Flw) : Int := if l = [] then 0 else lmK l
end Go.Proofs.Ytogbhiklhcibdaa
