/-
  Basin's leastMark, Closed, Mark.
  Basin's ahead: the places of a lane's cells that are ahead of a place, as they are met.
  slices.SortFunc of at most one place; basin's List where there is at most one cell.
-/
import Derived.Test.YtoeilckeebojmaaPk37
import Derived.Lib.MinMax
import Derived.Test.YtoeilckeebojmaaPk25
namespace Go.Proofs.Ytoeilckeebojmaa
open Go.RowKit Go.Maps
set_option linter.unusedVariables false
set_option maxRecDepth 100000

def lmK (l : List Flw) : Int := l.foldl (fun a f => min a f.mt) 9223372036854775807
theorem lmK_snoc {l : List Flw} {k : Nat} {f : Flw} (h : l[k]? = some f) : lmK (l.take (k + 1)) = min (lmK (l.take k)) f.mt := by
  unfold lmK
  rw [List.take_add_one, h]
  simp only [Option.toList_some, List.foldl_append, List.foldl_cons, List.foldl_nil]
theorem lmK_J : ∀ (l : List Flw) (a : Int), J64 a → (∀ f ∈ l, J64 f.mt) → J64 (l.foldl (fun a f => min a f.mt) a)
  | [], a, h, _ => h
  | f :: l, a, h, hl => lmK_J l _ (by have := hl f (by simp); unfold J64 at *; dsimp only; omega) (fun g hg => hl g (by simp [hg]))
/-- What leastMark answers. -/
def lmB (l : List Flw) : Bool := l.all fun f => f.md
def lmV (l : List Flw) : Int := if lmB l = true then lmK l else 0
theorem lmV_yes {l : List Flw} (h : lmB l = true) : lmV l = lmK l := by unfold lmV; rw [if_pos h]
theorem lmV_no {l : List Flw} (h : lmB l = false) : lmV l = 0 := by unfold lmV; rw [if_neg (by rw [h]; simp)]
set_option maxHeartbeats 1000000 in
theorem baleast_any {B : Nat} {K : Bkk} {S : Bsn} (w : World) (h : Bq w B K S) : Calls Try.prog 46 #[bptr K] w fun e w' => e = .returned (.tuple #[.int .i64 (lmV S.fl), .bool (lmB S.fl)]) ∧ Below w.heap.size w w' := by
  obtain ⟨-, -, -, c3, -, -⟩ := h.cells w (Below.refl _ _)
  have HC : Hid (∀ V k f, Below w.heap.size w V → S.fl[k]? = some f → V.cell? ⟨K.gf, k * 3, none⟩ = some (.int .i64 f.nx) ∧ V.cell? ⟨K.gf, k * 3 + 1, none⟩ = some (.int .i64 f.mt) ∧ V.cell? ⟨K.gf, k * 3 + 2, none⟩ = some (.bool f.md)) := fun V k f hb hf => ⟨(h.keep hb).fe.cell (i := 0) hf rfl, (h.keep hb).fe.cell (i := 1) hf rfl, (h.keep hb).fe.cell (i := 2) hf rfl⟩
  have HJ : Hid (∀ f ∈ S.fl, J64 f.mt) := fun f hf => (h.ok.ff f hf).2
  have hn4 := h.ok.f1
  clear h
  generalize hl : S.fl = l at *
  clear hl
  generalize hn : l.length = n at *
  obtain ⟨b, m, gf, cf, gb, cb, vr⟩ := K
  try dsimp only at *
  go_enter Try.func46, Try.ntmps46
  go_wp2_with fail
  go_loopw [4, 12] (fun x z wr => ∃ k : Nat, k ≤ n ∧ z = .int .i64 (k : Int) ∧ x = .int .i64 (lmK (l.take k)) ∧ (∀ f ∈ l.take k, f.md = true) ∧ Below w.heap.size w wr) (fun _ z _ => n - (intOf z).toNat)
  case atStart => exact ⟨0, by omega, rfl, rfl, fun f hf => by simp at hf, Below.refl _ _⟩
  case round =>
    obtain ⟨k, hk, rfl, rfl, hall, hw⟩ := hrel
    by_cases c : k = n
    · subst c
      rw [List.take_of_length_le (by omega)] at hall ⊢
      have HB : Hid (lmB l = true) := by show _ = _; unfold lmB; rw [List.all_eq_true]; exact hall
      have HV : Hid (lmV l = lmK l) := lmV_yes HB.out
      clear hall
      generalize lmK l = x at *
      go_wp2_with fail
      go_ret2
      exact ⟨by rw [HB.out, HV.out]; rfl, hw⟩
    · obtain ⟨f, hf⟩ : ∃ f, l[k]? = some f := ⟨l[k], List.getElem?_eq_getElem (by omega)⟩
      obtain ⟨z0, z1, z2⟩ := HC.out _ k f hw hf
      have hki : (k : Int) < (n : Int) := by omega
      have HN : Hid (lmK (l.take (k + 1)) = min (lmK (l.take k)) f.mt) := lmK_snoc hf
      have HA : Hid (f.md = true → ∀ g ∈ l.take (k + 1), g.md = true) := by
        intro hm g hg
        rw [List.take_add_one, hf] at hg
        rcases List.mem_append.1 hg with hg | hg
        · exact hall g hg
        · simp at hg; subst hg; exact hm
      have HF : Hid (f.md = false → lmB l = false) := by
        intro hm
        cases hh : lmB l
        · rfl
        · unfold lmB at hh
          rw [List.all_eq_true] at hh
          have := hh f (List.mem_of_getElem? hf)
          rw [hm] at this; cases this
      have hj1 := HJ.out f (List.mem_of_getElem? hf)
      have hj2 : J64 (lmK (l.take k)) := lmK_J _ _ (by unfold J64; omega) (fun g hg => HJ.out g (List.mem_of_mem_take hg))
      generalize lmK (l.take k) = x at *
      obtain ⟨A, hE, hX, hwA⟩ := blk1 wr (flA f) 89
      have y1 : A.cell? ⟨wr.heap.size, 1, none⟩ = some (.int .i64 f.mt) := hX.at rfl
      have y2 : A.cell? ⟨wr.heap.size, 2, none⟩ = some (.bool f.md) := hX.at rfl
      unfold flA at hE
      clear hf hall HC
      unfold J64 at hj1 hj2
      go_upto_region 5 with fail
      clear hE z0 z1 z2
      cases hm : f.md
      · have HB := HF.out hm
        have HB' : Hid (lmB l = false) := HB
        have HV : Hid (lmV l = 0) := lmV_no HB
        rw [hm] at y2
        clear HB
        go_wp2_with fail
        go_ret2
        exact ⟨by rw [HB'.out, HV.out]; rfl, ab_trans hw hwA⟩
      · have HA' : Hid (∀ g ∈ l.take (k + 1), g.md = true) := HA.out hm
        rw [hm] at y2
        go_wp2_with fail
        go_roundw
        case rel => exact ⟨k + 1, by omega, by go_num, by rw [HN.out], HA'.out, ab_trans hw hwA⟩
        case measure => simp [intOf]; omega
/-- What Closed answers. -/
def clsP (S : Bsn) (i : Nat) : Int × Int := if lmB S.fl = true then (flD (lmV S.fl) ((S.res[i / S.sh.toNat]?).getD 0), -9223372036854775808) else (0, 0)
theorem clsP_no {S : Bsn} {i : Nat} (h : lmB S.fl = false) : clsP S i = (0, 0) := by unfold clsP; rw [if_neg (by rw [h]; simp)]
theorem clsP_yes {S : Bsn} {i : Nat} {r : Int} (h : lmB S.fl = true) (hr : S.res[i / S.sh.toNat]? = some r) : clsP S i = (flD (lmV S.fl) r, -9223372036854775808) := by unfold clsP; rw [if_pos h, hr]; rfl
theorem lmV_J {S : Bsn} (h : Okb S) : J64 (lmV S.fl) := by
  unfold lmV
  split
  · exact lmK_J _ _ (by unfold J64; omega) (fun g hg => (h.ff g hg).2)
  · unfold J64; omega
set_option maxHeartbeats 1000000 in
theorem baclosed_no {B : Nat} {K : Bkk} {S : Bsn} (n : Int) (w : World) (h : Bq w B K S) (hn : hasN n S.ba.length = false) :
    Calls Try.prog 22 #[bptr K, .int .i64 n] w fun e w' => e = .returned (.tuple #[Plc 0 0, .bool false]) ∧ Below w.heap.size w w' := by
  obtain ⟨A, hE, hX, hw⟩ := blk1 w #[.int .i64 0, .int .i64 0] 38
  have HS := bhasL_any n A (h.keep hw)
  rw [hn] at HS
  clear h hn
  obtain ⟨b, m, gf, cf, gb, cb, vr⟩ := K
  try dsimp only at *
  go_enter Try.func22, Try.ntmps22
  go_upto_region 2 with (go_at_call 45; refine HS.mono ?_; rintro e W ⟨rfl, rfl⟩)
  clear hE
  go_wp2_with (refine st_blk rfl rfl hX rfl rfl info_plc rfl (by simp [Value.oneCell']) ?_; intro W2 hX2 C2)
  exact bodyPost_ret (results_c2 rfl _ _ _ 38 _ (0, 0) _ _ rfl rfl hX2 Try.underlying38 rfl info_plc) rfl ⟨rfl, ab_chg hw C2 (Nat.le_refl _)⟩
theorem baclosed_nil (n : Int) (w : World) :
    Calls Try.prog 22 #[.pointer none, .int .i64 n] w fun e w' => e = .returned (.tuple #[Plc 0 0, .bool false]) ∧ Below w.heap.size w w' := by
  obtain ⟨A, hE, hX, hw⟩ := blk1 w #[.int .i64 0, .int .i64 0] 38
  go_enter Try.func22, Try.ntmps22
  go_upto_region 2 with (go_at_call 45; refine (bhasL_nil _ _).mono ?_; rintro e W ⟨rfl, rfl⟩)
  clear hE
  go_wp2_with (refine st_blk rfl rfl hX rfl rfl info_plc rfl (by simp [Value.oneCell']) ?_; intro W2 hX2 C2)
  exact bodyPost_ret (results_c2 rfl _ _ _ 38 _ (0, 0) _ _ rfl rfl hX2 Try.underlying38 rfl info_plc) rfl ⟨rfl, ab_chg hw C2 (Nat.le_refl _)⟩
set_option maxHeartbeats 2000000 in
theorem baclosed_at {B : Nat} {K : Bkk} {S : Bsn} (i : Nat) (w : World) (h : Bq w B K S) (hi : i < S.ba.length) :
    Calls Try.prog 22 #[bptr K, .int .i64 (i : Int)] w fun e w' => e = .returned (.tuple #[Plc (clsP S i).1 (clsP S i).2, .bool (lmB S.fl)]) ∧ Below w.heap.size w w' := by
  obtain ⟨A, hE, hX, hw⟩ := blk1 w #[.int .i64 0, .int .i64 0] 38
  have hA := h.keep hw
  have HS := bhasL_any (i : Int) A hA
  have hh : hasN (i : Int) S.ba.length = true := decide_eq_true (by omega)
  have HLm := baleast_any A hA
  rw [hh] at HS
  cases hb : lmB S.fl
  · rw [hb] at HLm
    rw [lmV_no hb] at HLm
    have HP : Hid (clsP S i = (0, 0)) := clsP_no hb
    rw [HP.out]
    clear h hA hh
    obtain ⟨b, m, gf, cf, gb, cb, vr⟩ := K
    try dsimp only at *
    go_enter Try.func22, Try.ntmps22
    go_upto_region 5 with (first
      | (go_at_call 45; refine HS.mono ?_; rintro e A ⟨rfl, rfl⟩)
      | (go_at_call 46; refine HLm.mono ?_; rintro e W3 ⟨rfl, b3⟩))
    clear hE
    have hX3 := hX.keep b3
    go_wp2_with (refine st_blk rfl rfl hX3 rfl rfl info_plc rfl (by simp [Value.oneCell']) ?_; intro W2 hX2 C2)
    exact bodyPost_ret (results_c2 rfl _ _ _ 38 _ (0, 0) _ _ rfl rfl hX2 Try.underlying38 rfl info_plc) rfl ⟨rfl, ab_chg (ab_trans hw b3) C2 (Nat.le_refl _)⟩
  · rw [hb] at HLm
    obtain ⟨sn, hsn⟩ : ∃ sn : Nat, S.sh = (sn : Int) := ⟨S.sh.toNat, by have := h.ok.s0; omega⟩
    have hs1 : 1 ≤ sn := by have := h.ok.s0; omega
    have hs4 : sn ≤ 4 := by have := h.ok.s1; omega
    have hil : i < S.res.length * sn := by
      have h1 := h.ok.bl
      rw [hsn, ← Int.natCast_mul] at h1
      omega
    have hj : i / sn < S.res.length := Nat.div_lt_of_lt_mul (by rwa [Nat.mul_comm])
    obtain ⟨r, hr⟩ : ∃ r, S.res[i / sn]? = some r := ⟨S.res[i / sn], List.getElem?_eq_getElem hj⟩
    have HP : Hid (clsP S i = (flD (lmV S.fl) r, -9223372036854775808)) := clsP_yes hb (by rw [hsn, Int.toNat_natCast]; exact hr)
    have hr2 := (h.ok.rr r (List.mem_of_getElem? hr)).2
    have hmJ := lmV_J h.ok
    rw [HP.out]
    dsimp only
    obtain ⟨q, cap, g, off, he, hc, hm, hp, hg, hrow⟩ := hA.re.is
    obtain rfl := hp (Nat.lt_of_le_of_lt (Nat.zero_le _) hj)
    have HC : Hid (∀ V, Below A.heap.size A V → V.cell? ⟨K.b, 0, none⟩ = some (.slice (some ⟨g, off, none⟩) S.res.length cap) ∧ V.cell? ⟨K.b, 1, none⟩ = some (.int .i64 (sn : Int)) ∧ V.cell? ⟨g, off + i / sn, none⟩ = some (.int .i64 r)) := fun V hb => by
      obtain ⟨c0, c1, -⟩ := hA.cells V hb
      rw [he] at c0
      rw [hsn] at c1
      exact ⟨c0, c1, keep_cell hb (hrow _ _ hr) (hg (Nat.lt_of_le_of_lt (Nat.zero_le _) hj))⟩
    have hq : Int.tdiv (i : Int) (sn : Int) = ((i / sn : Nat) : Int) := by rw [Int.ofNat_tdiv]
    have hj' : ((i / sn : Nat) : Int) < (S.res.length : Int) := by omega
    clear h hA hh hp hrow he hr hg hil hj hsn
    generalize lmV S.fl = lm at *
    generalize S.res.length = nr at *
    generalize i / sn = j at *
    obtain ⟨b, m, gf, cf, gb, cb, vr⟩ := K
    try dsimp only at *
    go_enter Try.func22, Try.ntmps22
    go_upto_region 6 with (first
      | (go_at_call 45; refine HS.mono ?_; rintro e A ⟨rfl, rfl⟩)
      | (go_at_call 46; refine HLm.mono ?_; rintro e W3 ⟨rfl, b3⟩))
    clear hE HS HLm
    have hX3 := hX.keep b3
    have hw3 := ab_trans hw b3
    have hzb : w.heap.size < W3.heap.size := hX3.lt
    have hsn0 : ¬ sn = 0 := by omega
    have hwj : IntKind.i64.wrap (j : Int) = (j : Int) := by simp [IntKind.wrap, IntKind.signed, IntKind.bits] <;> omega
    refine region_L 14 (S := fun w' => Below W3.heap.size W3 w') (by kernel_rfl) (ab_drew (Below.refl _ _)) (fun hHeld => ?_)
    refine takeP (i := 0) (some 21) (by rfl) rfl rfl (by kernel_rfl) (by kernel_rfl) (by kernel_rfl) (fun _ _ _ h => h) (by rfl) (fun w => by go_simp; try rfl) hHeld ?_
    go_frame
    refine takeP (i := 1) (some 22) (by rfl) rfl rfl (by kernel_rfl) (by kernel_rfl) (by kernel_rfl) (fun _ _ _ h => h) (by rfl) (fun w => by go_simp; try rfl) hHeld ?_
    go_frame
    refine takeP (i := 2) (some 23) (by rfl) rfl rfl (by kernel_rfl) (by kernel_rfl) (by kernel_rfl) (fun _ _ _ h => h) (by rfl) (fun w => by go_simp; try rfl) hHeld ?_
    go_frame
    refine takeP (i := 3) (some 24) (by rfl) rfl rfl (by kernel_rfl) (by kernel_rfl) (by kernel_rfl) (fun _ _ _ h => h) (by rfl) (fun w => by go_simp; try rfl) hHeld ?_
    go_frame
    refine takeL (i := 4) [14] (some 25) (by rfl) rfl rfl (by kernel_rfl) (by kernel_rfl) (by kernel_rfl) (by kernel_rfl) (fun _ _ _ h => h) (by rfl) (fun w hSw => by (try dsimp only at hSw); (obtain ⟨q0, q1, q2⟩ := HC.out _ (ab_trans b3 hSw); go_simp; try rfl)) hHeld ?_
    go_frame
    refine takeP (i := 5) (some 26) (by rfl) rfl rfl (by kernel_rfl) (by kernel_rfl) (by kernel_rfl) (fun _ _ _ h => h) (by rfl) (fun w => by go_simp; try rfl) hHeld ?_
    go_frame
    refine takeP (i := 6) (some 27) (by rfl) rfl rfl (by kernel_rfl) (by kernel_rfl) (by kernel_rfl) (fun _ _ _ h => h) (by rfl) (fun w => by go_simp; try rfl) hHeld ?_
    go_frame
    refine takeP (i := 7) (some 28) (by rfl) rfl rfl (by kernel_rfl) (by kernel_rfl) (by kernel_rfl) (fun _ _ _ h => h) (by rfl) (fun w => by go_simp; try rfl) hHeld ?_
    go_frame
    refine takeP (i := 8) (some 29) (by rfl) rfl rfl (by kernel_rfl) (by kernel_rfl) (by kernel_rfl) (fun _ _ _ h => h) (by rfl) (fun w => by go_simp; try rfl) hHeld ?_
    go_frame
    refine takeL (i := 9) [14] (some 30) (by rfl) rfl rfl (by kernel_rfl) (by kernel_rfl) (by kernel_rfl) (by kernel_rfl) (fun _ _ _ h => h) (by rfl) (fun w hSw => by (try dsimp only at hSw); (obtain ⟨q0, q1, q2⟩ := HC.out _ (ab_trans b3 hSw); go_simp; try rfl)) hHeld ?_
    go_frame
    refine takeL (i := 10) [14] (some 31) (by rfl) rfl rfl (by kernel_rfl) (by kernel_rfl) (by kernel_rfl) (by kernel_rfl) (fun _ _ _ h => h) (by rfl) (fun w hSw => by (try dsimp only at hSw); (go_simp; try rfl)) hHeld ?_
    go_frame
    clear hwj hsn0 hq
    refine takeL (i := 11) [14] (some 32) (by rfl) rfl rfl (by kernel_rfl) (by kernel_rfl) (by kernel_rfl) (by kernel_rfl) (fun _ _ _ h => h) (by rfl) (fun w hSw => by (try dsimp only at hSw); (go_simp; try rfl)) hHeld ?_
    go_frame
    refine takeL (i := 12) [14] (some 33) (by rfl) rfl rfl (by kernel_rfl) (by kernel_rfl) (by kernel_rfl) (by kernel_rfl) (fun _ _ _ h => h) (by rfl) (fun w hSw => by (try dsimp only at hSw); (obtain ⟨q0, q1, q2⟩ := HC.out _ (ab_trans b3 hSw); go_simp; try rfl)) hHeld ?_
    go_frame
    refine anyL_ready (rs := [13]) (by kernel_rfl) (by simp) (AllL.cons rfl (fun K hK => ?_) AllL.nil)
    go_simp
    refine (closed_any lm r _ hmJ.1 hmJ.2 hr2).mono ?_
    rintro e W4 ⟨rfl, b4⟩
    show K _ _
    have hX4 := (hX3.keep hHeld).keep b4
    refine hK.out _ _ (ab_trans hHeld b4) (fun hHeld => ?_)
    clear hK K
    refine anyL_ready (rs := [14]) (by kernel_rfl) (by simp) (AllL.last rfl (by kernel_rfl) (fun K hK => ?_))
    rw [if_pos (by rfl)]
    refine stW none rfl rfl hX4 rfl rfl info_plc rfl (by simp [Value.oneCell']) fun W5 hX5 C5 => ?_
    refine hK.out _ _ ?_
    clear hK K
    refine anyL_ready (rs := [15]) (by kernel_rfl) (by simp) (AllL.free rfl (by kernel_rfl) (fun K hK => ?_))
    go_simp
    refine hK.out _ _ ?_
    clear hK K
    refine anyL_done (by kernel_rfl) ?_
    have hw5 := ab_chg (ab_trans hw3 hHeld) C5 (Nat.le_refl _)
    go_wp2_with fail
    exact bodyPost_ret (results_c2 rfl _ _ _ 38 _ (0, 0) _ _ rfl rfl hX5 Try.underlying38 rfl info_plc) rfl ⟨rfl, hw5⟩
end Go.Proofs.Ytoeilckeebojmaa
namespace Go.Proofs.Ytoeilckeebojmaa
open Go.RowKit Go.Maps
set_option linter.unusedVariables false
set_option maxRecDepth 100000

/-- Which of some names are a lane's, ahead of a place; their places. -/
def selK (lane : Int) (pt : Int × Int) (k : Kyy) : Bool := decide (k.1 = lane) && pl k.2.1 k.2.2 pt.1 pt.2
def plsK (lane : Int) (pt : Int × Int) (l : List Kyy) : List (Int × Int) := (l.filter (selK lane pt)).map fun k => k.2
theorem plsK_snoc (lane : Int) (pt : Int × Int) (l : List Kyy) (k : Kyy) : plsK lane pt (l ++ [k]) = plsK lane pt l ++ (if selK lane pt k = true then [k.2] else []) := by
  unfold plsK
  rw [List.filter_append, List.map_append]
  congr 1
  simp only [List.filter_cons, List.filter_nil]
  split <;> simp
theorem plsK_len (lane : Int) (pt : Int × Int) (l : List Kyy) : (plsK lane pt l).length ≤ l.length := by
  unfold plsK
  rw [List.length_map]
  exact List.length_filter_le _ _
/-- How far the range has come. -/
structure Aw (w W : World) (K : Bkk) (S : Bsn) (D : DataW Value) (r : Nat) (got rest : List Kyy) (cnt : Nat) : Prop where
  rg : ∃ left, W.ranges Try.prog 47 hldV K.m r S.ks.length D left cnt ∧ ∀ k, KyOk k → left (kyL k) = decide (k ∈ rest)
  pm : S.ks.Perm (got ++ rest)
  bl : Below w.heap.size w W
  nr : w.heap.size ≤ r
theorem Aw.keep {w W W' : World} {K : Bkk} {S : Bsn} {D : DataW Value} {r : Nat} {got rest : List Kyy} {cnt : Nat} (h : Aw w W K S D r got rest cnt) (hb : Below W.heap.size W W') : Aw w W' K S D r got rest cnt := by
  refine ⟨?_, h.pm, ab_trans h.bl hb, h.nr⟩
  obtain ⟨left, ⟨es, clock, since, seen, c0, h1, h2, h3, h4, h5, h6⟩, hl⟩ := h.rg
  have l1 : K.m < W.heap.size := (Array.getElem?_eq_some_iff.1 h1).1
  have l2 : r < W.heap.size := (Array.getElem?_eq_some_iff.1 h5).1
  exact ⟨left, ⟨es, clock, since, seen, c0, (hb.block _ l1).trans h1, h2, h3, h4, (hb.block _ l2).trans h5, h6⟩, hl⟩
theorem perm_move {ks got rest : List Kyy} {k : Kyy} (h : ks.Perm (got ++ rest)) (hk : k ∈ rest) : ks.Perm (got ++ [k] ++ rest.erase k) := by
  refine h.trans ?_
  rw [List.append_assoc]
  exact List.Perm.append_left got (List.perm_cons_erase hk)
set_option maxHeartbeats 2000000 in
theorem bacoll_any {B : Nat} {K : Bkk} {S : Bsn} (lane : Int) (pt : Int × Int) (w : World) (h : Bq w B K S) (Post : Ending → World → Prop)
    (hPost : ∀ (v : Value) (got : List Kyy) (W : World), S.ks.Perm got → EO E2 38 W w.heap.size v (plsK lane pt got) → Below w.heap.size w W →
      Calls Try.prog 58 #[v, .func (.func 59) #[] #[]] W fun e w' => e = .returned (.tuple #[]) ∧ Post (.returned v) w') :
    Calls Try.prog 48 #[bptr K, .int .i64 lane, Plc pt.1 pt.2] w Post := by
  obtain ⟨A, hE, hX, hw⟩ := blk1 w #[.int .i64 pt.1, .int .i64 pt.2] 38
  have hA := h.keep hw
  obtain ⟨-, -, -, -, -, c5⟩ := hA.cells A (Below.refl _ _)
  obtain ⟨D0, hO, hD⟩ := hA.ce
  rw [hD.sz] at hO
  have HK : Hid (∀ k ∈ S.ks, KyOk k) := fun k hk => (h.ok.kk k hk).1
  have hkl : S.ks.length ≤ 1024 := by have := h.ok.kl; have := h.ok.m1; omega
  have HD : Hid (Dm D0 S.ks S.cv) := hD
  have HND : Hid S.ks.Nodup := h.ok.nd
  clear h hA hD
  generalize hn : S.ks.length = n at *
  have HN : Hid (S.ks.length = n) := hn
  clear hn
  obtain ⟨b, m, gf, cf, gb, cb, vr⟩ := K
  obtain ⟨t0, t1⟩ := pt
  try dsimp only at *
  have HX : Hid (∀ V, Below A.heap.size A V → V.cell? ⟨w.heap.size, 0, none⟩ = some (.int .i64 t0) ∧ V.cell? ⟨w.heap.size, 1, none⟩ = some (.int .i64 t1)) := fun V hb => ⟨(hX.keep hb).at rfl, (hX.keep hb).at rfl⟩
  go_enter Try.func48, Try.ntmps48
  go_wp2_with (at_range; refine wpList_range_own _ rfl _ 91 rfl 47 54 keyed16 Try.underlying91 hldV m n D0 rfl hO ?_; intro w0 hrg0 hg0 hs0)
  go_frame
  have bg0 : Below A.heap.size A w0 := ⟨hg0.os, hg0.tape, hg0.output, hg0.size, fun i hi => hg0.block i hi (by simp)⟩
  have hA0 : Aw A w0 ⟨b, m, gf, cf, gb, cb, vr⟩ S D0 A.heap.size [] S.ks n := by
    refine ⟨⟨_, by rw [HN.out]; rw [HD.out.sz, HN.out] at hrg0; exact hrg0, fun k hk => HD.out.hs k hk⟩, List.Perm.refl _, bg0, Nat.le_refl _⟩
  have hE0 : EO E2 38 w0 A.heap.size (.slice none 0 0) (plsK lane (t0, t1) []) := eo_nil _ _ _ _
  clear hrg0 hg0 c5 hO hE hX hs0 bg0
  go_loopw [7, 17] (fun x _ wr => ∃ got rest cnt, Aw A wr ⟨b, m, gf, cf, gb, cb, vr⟩ S D0 A.heap.size got rest cnt ∧ EO E2 38 wr A.heap.size x (plsK lane (t0, t1) got)) (fun _ _ wr => wr.rangeLeft m A.heap.size)
  case atStart => exact ⟨_, _, _, hA0, hE0⟩
  case round =>
    clear hA0 hE0
    obtain ⟨got, rest, cnt, hW, hE0⟩ := hrel
    obtain ⟨left, hrg, hl⟩ := hW.rg
    rw [HN.out] at hrg
    have HW : Hid (Aw A wr ⟨b, m, gf, cf, gb, cb, vr⟩ S D0 A.heap.size got rest cnt) := hW
    clear hW
    obtain ⟨qx, cx, hxf⟩ := hE0.form
    subst hxf
    have hnn := Nat.le_trans (plsK_len lane (t0, t1) got) (show got.length ≤ n by have := HW.out.pm.length_eq; rw [HN.out, List.length_append] at this; omega)
    generalize hN2 : (plsK lane (t0, t1) got).length = nn at *
    go_wp2_with (at_next; refine wpList_next_ranges _ rfl _ rfl 47 keyed16 hldV (fun x : { k : Kyy // KyOk k } => kyV x.1) id ky_inv2 held_inv m A.heap.size n D0 left cnt rfl hrg ?_ ?_)
    · intro _ hl0
      have hre : rest = [] := by
        cases hr : rest with
        | nil => rfl
        | cons k t =>
          have hk : k ∈ rest := by rw [hr]; simp
          have hko := HK.out k (HW.out.pm.mem_iff.2 (List.mem_append_right _ hk))
          have h1 := hl k hko
          rw [hl0, decide_eq_true hk] at h1
          cases h1
      have hpm : S.ks.Perm got := by
        have := HW.out.pm
        rw [hre, List.append_nil] at this
        exact this
      have HP := hPost (.slice qx nn cx) got wr hpm (own_less hE0 hw.size) (ab_trans hw HW.out.bl)
      clear hrg hl HW hre hpm hPost
      go_wp2_with (go_at_call 58; refine HP.mono ?_; rintro e W2 ⟨rfl, hp⟩)
      exact hp
    · intro ka kb kc hk v kl yd yp w1 cnt1 hkey hlk hv hat hrg1 hlt hg1 hs1 hen
      have hW := HW.out
      obtain rfl : kl = kyL (ka, kb, kc) := by
        rw [key16 hk] at hkey
        exact (Option.some.inj hkey).symm
      have hmem : (ka, kb, kc) ∈ rest := by
        have h1 := hl _ hk
        rw [hlk] at h1
        exact of_decide_eq_true h1.symm
      have b1 : Below A.heap.size A w1 := by
        have hf : Frm (fun k => k = A.heap.size) A w1 := (frm_below (X := fun k => k = A.heap.size) hW.bl).young (frm_grown (X := fun k => k = A.heap.size) hg1 rfl) (fun k hk e => e)
        exact hf.below (Nat.le_refl _) (fun k hk => by omega)
      have hE1 : EO E2 38 w1 A.heap.size (.slice qx nn cx) (plsK lane (t0, t1) got) := by
        refine own_at hE0 fun g hg => hg1.block g (World.ownsRow.lt hE0 g hg).2 (fun e => ?_)
        injection e with e
        obtain ⟨es, clock, since, seen, c0, h1, h2, h3, h4, h5, h6⟩ := hrg
        obtain ⟨cur, fr, e3⟩ := own_kindR hE0 hg
        rw [e] at e3
        rw [h5] at e3
        cases e3
      have hN : Aw A w1 ⟨b, m, gf, cf, gb, cb, vr⟩ S D0 A.heap.size (got ++ [(ka, kb, kc)]) (rest.erase (ka, kb, kc)) cnt1 := by
        refine ⟨⟨_, by rw [HN.out]; exact hrg1, fun k hk' => ?_⟩, perm_move hW.pm hmem, b1, Nat.le_refl _⟩
        have hnd : rest.Nodup := (List.nodup_append.1 (hW.pm.nodup_iff.1 HND.out)).2.1
        rw [same_iff hk' hk, hl k hk']
        by_cases e : k = (ka, kb, kc)
        · subst e
          simp [hnd.not_mem_erase]
        · simp [e, List.mem_erase_of_ne e]
      have HPL : Hid (plsK lane (t0, t1) (got ++ [(ka, kb, kc)]) = plsK lane (t0, t1) got ++ (if selK lane (t0, t1) (ka, kb, kc) = true then [(kb, kc)] else [])) := plsK_snoc _ _ _ _
      have hlt' : Hid (∀ c', c' ≤ cnt1 → c' < cnt) := fun c' h => by show _ < _; omega
      have hleft := hrg.left_eq
      clear hW HW hlk hv hat hs1 hg1 hrg1 hl hE0 hkey hrg
      unfold kyV at hen
      try dsimp only at hen
      obtain ⟨A2, hE2, hX2, hw2⟩ := blk1 w1 #[.int .i64 ka, .int .i64 kb, .int .i64 kc] 47
      have y0 : A2.cell? ⟨w1.heap.size, 0, none⟩ = some (.int .i64 ka) := hX2.at rfl
      have y1 : A2.cell? ⟨w1.heap.size, 1, none⟩ = some (.int .i64 kb) := hX2.at rfl
      have y2 : A2.cell? ⟨w1.heap.size, 2, none⟩ = some (.int .i64 kc) := hX2.at rfl
      obtain ⟨x0, x1⟩ := HX.out A2 (ab_trans b1 hw2)
      have hE2' := hE1.keep hw2
      have hN2' := hN.keep hw2
      clear hE1 hN
      by_cases hla : ka = lane
      · have hl1 : (ka == lane) = true := by simp [hla]
        cases hp : pl kb kc t0 t1
        · have HS : Hid (selK lane (t0, t1) (ka, kb, kc) = false) := by show _ = _; unfold selK; dsimp only; rw [hp, Bool.and_false]
          have HPL' : Hid (plsK lane (t0, t1) (got ++ [(ka, kb, kc)]) = plsK lane (t0, t1) got) := by show _ = _; rw [HPL.out, if_neg (by rw [HS.out]; simp), List.append_nil]
          clear hla HS HPL
          go_wp2_with (go_at_call 51; refine (pless_any _ _ _ _ _).mono ?_; rintro e W2 ⟨rfl, b2⟩; rw [hp])
          have hN3 := hN2'.keep b2
          obtain ⟨left3, hr3, -⟩ := hN3.rg
          go_roundw
          case rel => exact ⟨_, _, _, hN3, by rw [HPL'.out]; exact hE2'.keep b2⟩
          case measure => rw [hr3.left_eq, hleft]; exact hlt'.out _ (Nat.le_refl _)
        · have HS : Hid (selK lane (t0, t1) (ka, kb, kc) = true) := by show _ = _; unfold selK; dsimp only; rw [hp, hla]; simp
          have HPL' : Hid (plsK lane (t0, t1) (got ++ [(ka, kb, kc)]) = plsK lane (t0, t1) got ++ [(kb, kc)]) := by show _ = _; rw [HPL.out, if_pos HS.out]
          clear hla HS HPL
          go_upto_region 6 with (go_at_call 51; refine (pless_any _ _ _ _ _).mono ?_; rintro e W2 ⟨rfl, b2⟩; rw [hp])
          have hN3 := hN2'.keep b2
          have hE3 := hE2'.keep b2
          have hX3 := hX2.keep b2
          have g1 : W2.cell? ⟨w1.heap.size, 1, none⟩ = some (.int .i64 kb) := hX3.at rfl
          have g2 : W2.cell? ⟨w1.heap.size, 2, none⟩ = some (.int .i64 kc) := hX3.at rfl
          clear hE2 y0 y1 y2 x0 x1 hN2' hE2' hX2 hw2
          obtain ⟨A3, hE3', hX3', hw3⟩ := blk1 W2 #[.int .i64 kb, .int .i64 kc] 38
          have hER : ER E2 A3 (.slice (some ⟨W2.heap.size, 0, none⟩) 1 1) [(kb, kc)] := EO.er (e := 38) (base := W2.heap.size) (eo_of (n := 1) (own_blkE (xs := E2.fl [(kb, kc)]) hX3' (Nat.le_refl _) rfl (by unfold maxLen; omega)))
          have hE4 := hE3.keep hw3
          have hN4 := hN3.keep hw3
          have hwW : Below A.heap.size A A3 := hN4.bl
          clear hE3 hN3 hX3 hX3' hw3
          go_wp2_with (at_builtin; refine app_e (E := E2) A rfl rfl Try.underlying36 infoPl2 rfl rfl hE4 rfl hER (by rw [hN2]; show nn + 1 ≤ _; omega) (by rw [hN2]; show (nn + 1) * 16 ≤ _; omega) hwW ?_; intro v5 W5 hE5 hw5 hg5; go_frame)
          have hN5 : Aw A W5 ⟨b, m, gf, cf, gb, cb, vr⟩ S D0 A.heap.size (got ++ [(ka, kb, kc)]) (rest.erase (ka, kb, kc)) cnt1 := by
            refine ⟨?_, hN4.pm, hw5, hN4.nr⟩
            obtain ⟨left', ⟨es, clock, since, seen, c0, h1, h2, h3, h4, h5, h6⟩, hl'⟩ := hN4.rg
            have l1 : m < A3.heap.size := (Array.getElem?_eq_some_iff.1 h1).1
            have l2 : A.heap.size < A3.heap.size := (Array.getElem?_eq_some_iff.1 h5).1
            have n1 : ∀ x o, A3.heap[x]? = some o → (∀ cur fr, o ≠ .cells cur 38 fr) → some x ≠ (Value.slice qx nn cx).ownBlock := fun x o hx ho e => by
              obtain ⟨cur, fr, e3⟩ := own_kindR hE4 e.symm
              rw [hx] at e3
              cases e3
              exact ho _ _ rfl
            exact ⟨left', ⟨es, clock, since, seen, c0, (hg5.block _ l1 (n1 _ _ h1 (fun _ _ h => by cases h))).trans h1, h2, h3, h4, (hg5.block _ l2 (n1 _ _ h5 (fun _ _ h => by cases h))).trans h5, h6⟩, hl'⟩
          obtain ⟨left3, hr3, -⟩ := hN5.rg
          go_roundw
          case rel => exact ⟨_, _, _, hN5, by rw [HPL'.out]; exact hE5⟩
          case measure => rw [hr3.left_eq, hleft]; exact hlt'.out _ (Nat.le_refl _)
      · have hl1 : (ka == lane) = false := by simp [hla]
        have HS : Hid (selK lane (t0, t1) (ka, kb, kc) = false) := by show _ = _; unfold selK; dsimp only; rw [decide_eq_false hla, Bool.false_and]
        have HPL' : Hid (plsK lane (t0, t1) (got ++ [(ka, kb, kc)]) = plsK lane (t0, t1) got) := by show _ = _; rw [HPL.out, if_neg (by rw [HS.out]; simp), List.append_nil]
        clear hla HS HPL
        obtain ⟨left3, hr3, -⟩ := hN2'.rg
        go_wp2_with fail
        go_roundw
        case rel => exact ⟨_, _, _, hN2', by rw [HPL'.out]; exact hE2'⟩
        case measure => rw [hr3.left_eq, hleft]; exact hlt'.out _ (Nat.le_refl _)
end Go.Proofs.Ytoeilckeebojmaa
namespace Go.Proofs.Ytoeilckeebojmaa
open Go.RowKit Go.Maps
set_option linter.unusedVariables false
set_option maxRecDepth 100000

theorem bains_one (q : Option Addr) (n cap : Nat) (fv : Value) (hn : n ≤ 1) (w : World) : Calls Try.prog 76 #[.slice q n cap, .int .i64 0, .int .i64 (n : Int), fv] w fun e w' => e = .returned (.tuple #[]) ∧ w' = w := by
  have h : n = 0 ∨ n = 1 := by omega
  rcases h with rfl | rfl
  all_goals
    go_enter Try.func76, Try.ntmps76
    go_wp2_with fail
    refine wp_loop_rounds 1 ?_
    rw [rounds_succ]
    go_wp2_with fail
    exact bodyPost_end (results_none rfl _ _ _) rfl ⟨rfl, rfl⟩
theorem bapdq_one (q : Option Addr) (n cap : Nat) (x : Int) (fv : Value) (hn : n ≤ 1) (w : World) : Calls Try.prog 68 #[.slice q n cap, .int .i64 0, .int .i64 (n : Int), .int .i64 x, fv] w fun e w' => e = .returned (.tuple #[]) ∧ w' = w := by
  have h : n = 0 ∨ n = 1 := by omega
  rcases h with rfl | rfl
  all_goals
    go_enter Try.func68, Try.ntmps68
    go_wp2_with fail
    refine wp_loop_rounds 1 ?_
    rw [rounds_succ]
    go_wp2_with (go_at_call 76; refine (bains_one _ _ _ _ (by omega) _).mono ?_; rintro e w ⟨rfl, rfl⟩)
    exact bodyPost_ret (results_none rfl _ _ _) rfl ⟨rfl, rfl⟩
theorem balen_one (n : Nat) (hn : n ≤ 1) (w : World) : Calls Try.prog 69 #[.int .u64 (n : Int)] w fun e w' => (∃ x : Int, e = .returned (.int .i64 x)) ∧ w' = w := by
  have h : n = 0 ∨ n = 1 := by omega
  rcases h with rfl | rfl
  all_goals
    go_enter Try.func69, Try.ntmps69
    go_wp2_with (go_in)
    go_ret
    exact ⟨⟨_, rfl⟩, rfl⟩
theorem basort_one (q : Option Addr) (n cap : Nat) (fv : Value) (hn : n ≤ 1) (w : World) : Calls Try.prog 58 #[.slice q n cap, fv] w fun e w' => e = .returned (.tuple #[]) ∧ w' = w := by
  go_enter Try.func58, Try.ntmps58
  go_wp2_with (first
    | (go_at_call 69; refine (balen_one _ hn _).mono ?_; rintro e w ⟨⟨x, rfl⟩, rfl⟩)
    | (go_at_call 68; refine (bapdq_one _ _ _ _ _ hn _).mono ?_; rintro e w ⟨rfl, rfl⟩))
  exact bodyPost_end (results_none rfl _ _ _) rfl ⟨rfl, rfl⟩
end Go.Proofs.Ytoeilckeebojmaa
