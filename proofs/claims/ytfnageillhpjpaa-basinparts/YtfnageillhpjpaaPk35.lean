/-
  The document's cell of a row of samples: estuaryref02.Of.
  The document's cell of a row of samples: the walk of estuaryref02.Of.
-/
import Derived.Test.YtfnageillhpjpaaPk34
import Derived.Test.YtfnageillhpjpaaPk12
import Derived.Test.YtfnageillhpjpaaPk10
import Derived.Deep.RegionWith
namespace Go.Proofs.Ytfnageillhpjpaa
set_option maxRecDepth 100000
open Go.RowKit Go.Shelf
set_option linter.unusedVariables false

theorem joinO_ones : ∀ (l : List (Nat → Int)) (o : Option (Nat → Int)), (o ≠ none ∨ l ≠ []) → (l.map oneS).foldl stepJ o ≠ none
  | [], o, h => by simpa using h
  | s :: l, o, h => by
    simp only [List.map_cons, List.foldl_cons]
    refine joinO_ones l _ (.inl ?_)
    cases o with
    | none => rw [stepJ_none (one_not s)]; simp
    | some x => rw [stepJ_some (one_not s)]; simp
theorem joinF_first (s : Nat → Int) : joinF ([s].map oneS) = oneS s := by
  unfold joinF joinO; simp [stepJ_none (one_not s)]
theorem joinF_next (m : List (Nat → Int)) (s : Nat → Int) (h : m ≠ []) : joinF ((m ++ [s]).map oneS) = bothF (joinF (m.map oneS)) (oneS s) := by
  have h1 := joinO_ones m none (.inr h)
  unfold joinF joinO
  simp only [List.map_append, List.map_cons, List.map_nil, List.foldl_append, List.foldl_cons, List.foldl_nil]
  cases e : (m.map oneS).foldl stepJ none with
  | none => exact absurd e h1
  | some x => rw [stepJ_some (one_not s)]; rfl

theorem cup_self (x : Nat → Int) (p : Nat) : ∀ i, i < 74 → cup x p (x p) i = x i := by intro i _; unfold cup; split <;> simp_all
/-- The numbers that a round leaves. -/
def ofStep (x : Nat → Int) (m3 m4 m5 m6 m7 m8 v : Int) (b : Nat) : Nat → Int :=
  cup (cup (cup (cup (cup (cup (cup (cup (cup (cup x 3 m3) 4 m4) 5 m5) 6 m6) 7 m7) 8 m8) 0 (wrap64 (x 0 + 1))) 1 (wh (wv (x 1) (x 2) + wv (wh v) (wl v)))) 2 (wl (wv (x 1) (x 2) + wv (wh v) (wl v)))) (9 + b) (wrap64 (x (9 + b) + 1))
theorem ofStep_at (x : Nat → Int) (m3 m4 m5 m6 m7 m8 v : Int) (b i : Nat) : ofStep x m3 m4 m5 m6 m7 m8 v b i =
    if i = 9 + b then wrap64 (x (9 + b) + 1) else if i = 2 then wl (wv (x 1) (x 2) + wv (wh v) (wl v)) else if i = 1 then wh (wv (x 1) (x 2) + wv (wh v) (wl v)) else if i = 0 then wrap64 (x 0 + 1) else if i = 8 then m8 else if i = 7 then m7 else if i = 6 then m6 else if i = 5 then m5 else if i = 4 then m4 else if i = 3 then m3 else x i := rfl
theorem wv_zero (v : Int) : wv 0 0 + wv (wh v) (wl v) = wv (wh v) (wl v) := by unfold wv; omega
theorem wv_fit (v : Int) (h : Fit v) : wv (wh v) (wl v) = v := by have := h.1; have := h.2; unfold wv wh wl; omega

theorem ofStep_first (s : Nat → Int) (hf : Fit (s 5)) : ∀ i, i < 74 → ofStep zc (s 5) (s 5) (s 3) (s 0) (s 1) (s 5) (s 5) (Lib.bitLen (s 5).natAbs) i = oneS s i := by
  intro i hi
  have b := bl64 _ hf
  rw [ofStep_at]
  by_cases c : i = 9 + Lib.bitLen (s 5).natAbs
  · rw [if_pos c]; subst c; rw [oneS_hist _ _ b, if_pos rfl]; simp [zc, wrap64]
  · rw [if_neg c]
    by_cases d : i < 9
    · rw [oneS_head s i d]
      have e : wv (zc 1) (zc 2) + wv (wh (s 5)) (wl (s 5)) = s 5 := by rw [show zc 1 = 0 from rfl, show zc 2 = 0 from rfl, wv_zero, wv_fit _ hf]
      rw [e]
      unfold oneH
      match i, d with
      | 0, _ => simp [zc, wrap64]
      | 1, _ | 2, _ | 3, _ | 4, _ | 5, _ | 6, _ | 7, _ | 8, _ => rfl
    · obtain ⟨j, rfl⟩ : ∃ j, i = 9 + j := ⟨i - 9, by omega⟩
      rw [oneS_hist _ _ (by omega), if_neg (by omega)]
      repeat rw [if_neg (by omega)]
      rfl
theorem ofStep_next (x s : Nat → Int) (m5 m6 m7 m8 : Int) (hx : Wf x) (hf : Fit (s 5))
    (h5 : m5 = if ltr (s 3) (s 0) (s 1) (s 5) (x 5) (x 6) (x 7) (x 8) then s 3 else x 5) (h6 : m6 = if ltr (s 3) (s 0) (s 1) (s 5) (x 5) (x 6) (x 7) (x 8) then s 0 else x 6) (h7 : m7 = if ltr (s 3) (s 0) (s 1) (s 5) (x 5) (x 6) (x 7) (x 8) then s 1 else x 7) (h8 : m8 = if ltr (s 3) (s 0) (s 1) (s 5) (x 5) (x 6) (x 7) (x 8) then s 5 else x 8) :
    ∀ i, i < 74 → ofStep x (min (x 3) (s 5)) (max (x 4) (s 5)) m5 m6 m7 m8 (s 5) (Lib.bitLen (s 5).natAbs) i = bothF x (oneS s) i := by
  intro i hi
  have b := bl64 _ hf
  rw [ofStep_at]
  by_cases d : i < 9
  · rw [if_neg (by omega)]
    unfold bothF
    rw [if_pos d]
    unfold headF
    rw [oneS_head s 0 (by omega), oneS_head s 1 (by omega), oneS_head s 2 (by omega), oneS_head s 3 (by omega), oneS_head s 4 (by omega), oneS_head s 5 (by omega), oneS_head s 6 (by omega), oneS_head s 7 (by omega), oneS_head s 8 (by omega), oneS_head s i d]
    match i, d with
    | 0, _ | 1, _ | 2, _ | 3, _ | 4, _ => rfl
    | 5, _ => rw [h5]; rfl
    | 6, _ => rw [h6]; rfl
    | 7, _ => rw [h7]; rfl
    | 8, _ => rw [h8]; rfl
  · obtain ⟨j, rfl⟩ : ∃ j, i = 9 + j := ⟨i - 9, by omega⟩
    unfold bothF
    rw [if_neg d, oneS_hist _ _ (by omega)]
    by_cases c : j = Lib.bitLen (s 5).natAbs
    · rw [if_pos c, if_pos (by omega), c]
    · rw [if_neg c, if_neg (by omega)]
      repeat rw [if_neg (by omega)]
      have := hx.2 (9 + j) hi (by omega)
      unfold wrap64; omega

end Go.Proofs.Ytfnageillhpjpaa
namespace Go.Proofs.Ytfnageillhpjpaa
set_option maxRecDepth 100000
open Go.RowKit Go.Shelf
set_option linter.unusedVariables false

set_option maxRecDepth 100000 in
set_option maxHeartbeats 2000000 in
theorem rcof_any (q : Option Addr) (g off n cap : Nat) (l : List (Nat → Int)) (w : World) (hn : l.length = n) (hb : n ≤ 2000) (hp : 0 < n → q = some ⟨g, off, none⟩) (hg : 0 < n → g < w.heap.size) (hr : SRow w g off l) (hwf : ∀ c ∈ l.map oneS, Wf c) :
    Calls Try.prog 11 #[.slice q n cap] w fun e w' => e = .returned (.agg (CA (joinF (l.map oneS)))) ∧ Below w.heap.size w w' := by
  have zz := zero_cell
  go_enter Try.func11, Try.ntmps11
  go_upto_region 1 with (refine al_cell rfl rfl ?_; intro W1 e1 hR1 b1; clear e1)
  go_upto_region 2 with (first
    | (refine al_cell rfl rfl ?_; intro W2 e2 hX2 b2; clear e2)
    | (refine st_cell rfl rfl hX2 rfl rfl ?_; intro W3 hX3 C3))
  have hR3 := (hR1.keep b2).chg C3 (by have := hR1.lt; omega)
  have hw3 := ab_chg (ab_trans b1 b2) C3 b1.size
  have hXR : w.heap.size < W1.heap.size := hR1.lt
  clear hR1 b1 b2 C3 hX2 zz
  generalize W1.heap.size = X at *
  go_wp2_with fail
  go_loopw [4] (fun i wr => ∃ k : Nat, k ≤ n ∧ i = .int .i64 (k : Int) ∧ Blk wr X (CA (joinF ((l.take k).map oneS))) 54 ∧ Blk wr w.heap.size (CA zc) 54 ∧ Below w.heap.size w wr) (fun i _ => n - (intOf i).toNat)
  case atStart => exact ⟨0, by omega, rfl, hX3, hR3, hw3⟩
  case round =>
    clear hX3 hR3 hw3
    obtain ⟨k, hk, rfl, hX, hR, hw⟩ := hrel
    by_cases c : k = n
    · subst c
      have HJ : Hid (l.take k = l) := by show _ = _; rw [List.take_of_length_le (by omega)]
      rw [HJ.out] at hX
      clear HJ hr hwf
      go_wp2_with (first
        | (refine ld_cell rfl rfl hX rfl ?_)
        | (refine st_cell rfl rfl hR rfl rfl ?_; intro W9 hR9 C9))
      exact bodyPost_ret (results_cell_row rfl _ _ _ 54 _ (0, 0) _ rfl hR9 Try.underlying54 rfl (info_cell _)) rfl ⟨rfl, ab_chg hw C9 (by omega)⟩
    · have hlt : k < l.length := by omega
      obtain ⟨s, hs⟩ : ∃ s, l[k]? = some s := ⟨l[k], List.getElem?_eq_getElem hlt⟩
      obtain rfl := hp (by omega)
      have hki : (k : Int) < (n : Int) := by omega
      have cl := fun i hi => (hw.cell (p := ⟨g, off + k * 6 + i, none⟩) (hg (by omega))).trans (hr k s hs i hi).1
      have fit := fun i hi => (hr k s hs i hi).2
      have c0 := cl 0 (by omega)
      have c1 := cl 1 (by omega)
      have c2 := cl 2 (by omega)
      have c3 := cl 3 (by omega)
      have c4 := cl 4 (by omega)
      have c5 := cl 5 (by omega)
      rw [Nat.add_zero] at c0
      have f5 := fit 5 (by omega)
      have HT : Hid (l.take (k + 1) = l.take k ++ [s]) := by show _ = _; rw [List.take_add_one, hs]; rfl
      have HWx : Hid (Wf (joinF ((l.take k).map oneS))) := wf_joinF _ (fun d hd => hwf d (by rw [List.map_take] at hd; exact List.mem_of_mem_take hd))
      clear cl fit hr hlt hp hs hwf
      have e1 : off + k * 6 + 1 + 1 = off + k * 6 + 2 := rfl
      go_upto_region 6 with fail
      have hgl : g < wr.heap.size := Nat.lt_of_lt_of_le (hg (by omega)) hw.size
      have hX1 := hX.alloc (.cells #[.int .i64 (s 1), .int .i64 (s 2), .int .i64 (s 3), .int .i64 (s 4), .int .i64 (s 5)] 27)
      have hR1 := hR.alloc (.cells #[.int .i64 (s 1), .int .i64 (s 2), .int .i64 (s 3), .int .i64 (s 4), .int .i64 (s 5)] 27)
      have hw1 := ab_alloc hw (.cells #[.int .i64 (s 1), .int .i64 (s 2), .int .i64 (s 3), .int .i64 (s 4), .int .i64 (s 5)] 27)
      have hO1 := Blk.new wr #[.int .i64 (s 1), .int .i64 (s 2), .int .i64 (s 3), .int .i64 (s 4), .int .i64 (s 5)] 27
      have s0 := (((Below.refl _ wr).alloc (Nat.le_refl _) (.cells #[.int .i64 (s 1), .int .i64 (s 2), .int .i64 (s 3), .int .i64 (s 4), .int .i64 (s 5)] 27)).cell (p := ⟨g, off + k * 6, none⟩) hgl).trans c0
      have hXlt := hX.lt
      clear c0 c1 c2 c3 c4 c5 hX hR hw e1
      generalize wr.alloc (.cells #[.int .i64 (s 1), .int .i64 (s 2), .int .i64 (s 3), .int .i64 (s 4), .int .i64 (s 5)] 27) = V1 at *
      generalize wr.heap.size = B at *
      have o0 := hO1.at (i := 0) rfl
      have o2 := hO1.at (i := 2) rfl
      have o4 := hO1.at (i := 4) rfl
      have hBl : B < V1.heap.size := hO1.lt
      have hgV : g < V1.heap.size := by omega
      go_region_held3 (fun w' => w'.cell? ⟨g, off + k * 6, none⟩ = some (.int .i64 (s 0)) ∧ w'.cell? ⟨B, 0, none⟩ = some (.int .i64 (s 1)) ∧ w'.cell? ⟨B, 2, none⟩ = some (.int .i64 (s 3)) ∧ w'.cell? ⟨B, 4, none⟩ = some (.int .i64 (s 5))) (go_keep) (fail)
      go_upto_region 7 with fail
      have hX2 := ((hX1.alloc (.cells #[.int .i64 (s 3), .int .i64 (s 0), .int .i64 (s 1), .int .i64 (s 5)] 51)).drew)
      have hR2 := ((hR1.alloc (.cells #[.int .i64 (s 3), .int .i64 (s 0), .int .i64 (s 1), .int .i64 (s 5)] 51)).drew)
      have hO2 := ((hO1.alloc (.cells #[.int .i64 (s 3), .int .i64 (s 0), .int .i64 (s 1), .int .i64 (s 5)] 51)).drew)
      have hL2 := (Blk.new V1 #[.int .i64 (s 3), .int .i64 (s 0), .int .i64 (s 1), .int .i64 (s 5)] 51).drew
      have hw2 := ab_drew (ab_alloc hw1 (.cells #[.int .i64 (s 3), .int .i64 (s 0), .int .i64 (s 1), .int .i64 (s 5)] 51))
      clear hX1 hR1 hO1 hw1 o0 o2 o4 s0
      generalize (V1.alloc (.cells #[.int .i64 (s 3), .int .i64 (s 0), .int .i64 (s 1), .int .i64 (s 5)] 51)).drew = V2 at *
      generalize V1.heap.size = C at *
      have HK0 : Hid (k = 0 → joinF ((l.take (k + 1)).map oneS) = oneS s ∧ joinF ((l.take k).map oneS) = zc) := by
        intro e; rw [HT.out]; subst e; exact ⟨joinF_first s, rfl⟩
      have HK1 : Hid (k ≠ 0 → joinF ((l.take (k + 1)).map oneS) = bothF (joinF ((l.take k).map oneS)) (oneS s)) := by
        intro e; rw [HT.out]; exact joinF_next _ _ (by intro h; have := congrArg List.length h; rw [List.length_take, List.length_nil] at this; omega)
      clear HT
      generalize joinF ((l.take k).map oneS) = x at *
      generalize hx' : joinF ((l.take (k + 1)).map oneS) = x' at HK0 HK1
      have HX' : Hid (joinF ((l.take (k + 1)).map oneS) = x') := hx'
      clear hx'
      obtain ⟨z0, z1, z2, z3, z4, z5, z6, z7, z8⟩ := hX2.nine
      have fa := hX2.frozen
      have o4 := hO2.at (i := 4) rfl
      have l0 := hL2.at (i := 0) rfl
      have l1 := hL2.at (i := 1) rfl
      have l2 := hL2.at (i := 2) rfl
      have l3 := hL2.at (i := 3) rfl
      clear z0 z1 z2
      by_cases k0 : k = 0
      · subst k0
        go_upto_region 13 with fail
        have hX3 := (((((hX2.setN 3 (s 5) .i64 (by omega) rfl).setN 4 (s 5) .i64 (by omega) rfl).setN 5 (s 3) .i64 (by omega) rfl).setN 6 (s 0) .i64 (by omega) rfl).setN 7 (s 1) .i64 (by omega) rfl).setN 8 (s 5) .i64 (by omega) rfl
        have C3 := (((((chg_set V2 X 3 (.int .i64 (s 5))).trans (chg_set _ X 4 (.int .i64 (s 5)))).trans (chg_set _ X 5 (.int .i64 (s 3)))).trans (chg_set _ X 6 (.int .i64 (s 0)))).trans (chg_set _ X 7 (.int .i64 (s 1)))).trans (chg_set _ X 8 (.int .i64 (s 5)))
        have hR3 := hR2.chg C3 (by omega)
        have hO3 := hO2.chg C3 (by omega)
        have hw3 := ab_chg hw2 C3 (by omega)
        clear C3 hX2 hR2 hO2 hL2 hw2 z3 z4 z5 z6 z7 z8 fa o4 l0 l1 l2 l3
        generalize (((((V2.setCell ⟨X, 3, none⟩ (.int .i64 (s 5))).setCell ⟨X, 4, none⟩ (.int .i64 (s 5))).setCell ⟨X, 5, none⟩ (.int .i64 (s 3))).setCell ⟨X, 6, none⟩ (.int .i64 (s 0))).setCell ⟨X, 7, none⟩ (.int .i64 (s 1))).setCell ⟨X, 8, none⟩ (.int .i64 (s 5)) = V3 at hX3 hR3 hO3 hw3 ⊢
        obtain ⟨y, hy⟩ : ∃ y, y = cup (cup (cup (cup (cup (cup x 3 (s 5)) 4 (s 5)) 5 (s 3)) 6 (s 0)) 7 (s 1)) 8 (s 5) := ⟨_, rfl⟩
        have Hy : Hid (y = _) := hy
        rw [← hy] at hX3
        clear hy
        have y0 : y 0 = x 0 := by rw [Hy.out]; simp [cup]
        have y1 : y 1 = x 1 := by rw [Hy.out]; simp [cup]
        have y2 : y 2 = x 2 := by rw [Hy.out]; simp [cup]
        have y9 : ∀ j, y (9 + j) = x (9 + j) := by intro j; rw [Hy.out]; unfold cup; rw [if_neg (by omega), if_neg (by omega), if_neg (by omega), if_neg (by omega), if_neg (by omega), if_neg (by omega)]
        obtain ⟨z0, z1, z2, z3, z4, z5, z6, z7, z8⟩ := hX3.nine
        have fa := hX3.frozen
        have o4 := hO3.at (i := 4) rfl
        rw [y0] at z0
        rw [y1] at z1
        rw [y2] at z2
        have hBX : B ≠ X := by omega
        clear z3 z4 z5 z6 z7 z8
        go_upto_region 14 with fail
        have hX4 := hX3.setN 0 (wrap64 (x 0 + 1)) .i64 (by omega) rfl
        have C4 := chg_set V3 X 0 (.int .i64 (wrap64 (x 0 + 1)))
        have hR4 := hR3.chg C4 (by omega)
        have hO4 := hO3.chg C4 hBX
        have hw4 := ab_chg hw3 C4 (by omega)
        clear C4 z0 z1 z2 fa o4 hX3 hR3 hO3 hw3
        generalize V3.setCell ⟨X, 0, none⟩ (.int .i64 (wrap64 (x 0 + 1))) = V4 at hX4 hR4 hO4 hw4 ⊢
        go_cut [] from 9 to 87 (fun wc => Blk wc X (CA (cup (cup (cup y 0 (wrap64 (x 0 + 1))) 1 (wh (wv (x 1) (x 2) + wv (wh (s 5)) (wl (s 5))))) 2 (wl (wv (x 1) (x 2) + wv (wh (s 5)) (wl (s 5)))))) 54 ∧ Blk wc w.heap.size (CA zc) 54 ∧ Blk wc B #[.int .i64 (s 1), .int .i64 (s 2), .int .i64 (s 3), .int .i64 (s 4), .int .i64 (s 5)] 27 ∧ Below w.heap.size w wc)
        case first =>
          have z1 : V4.cell? ⟨X, 1, none⟩ = some (.int .i64 (x 1)) := by rw [← y1]; exact (hX4.nine).2.1
          have z2 : V4.cell? ⟨X, 2, none⟩ = some (.int .u64 (x 2)) := by rw [← y2]; exact (hX4.nine).2.2.1
          have o4 := hO4.at (i := 4) rfl
          have wx1 := HWx.out.2 1 (by omega) (by omega)
          have wx2 := HWx.out.1
          have hh := wh_bd (s 5)
          have hl := wl_bd (s 5)
          have hXl := hX4.lt
          have hOl := hO4.lt
          have hRl := hR4.lt
          go_region_with (first
            | (go_at_call 32; refine (rof2_any _ _ f5.1 f5.2).mono ?_; rintro e Wa ⟨rfl, ba⟩; have ba := undrew ba; have za1 := keep_cell ba z1 hXl; have za2 := keep_cell ba z2 hXl; have hXa := hX4.keep ba; have hRa := hR4.keep ba; have hOa := hO4.keep ba; have hwa := ab_trans hw4 ba; have faa := hXa.frozen; clear ba)
            | (go_at_call 31; refine (radd_any _ _ _ _ _ wx1.1 wx1.2 wx2.1 wx2.2 hh.1 hh.2 hl.1 hl.2).mono ?_; rintro e Wb ⟨rfl, bb⟩; have hXb := hXa.keep bb; have hRb := hRa.keep bb; have hOb := hOa.keep bb; have hwb := ab_trans hwa bb; have fab := hXb.frozen; obtain ⟨zb0, zb1, zb2, zb3, zb4, zb5, zb6, zb7, zb8⟩ := hXb.nine; clear bb))
          all_goals
            go_wp2_with fail
            go_meet
            case rel =>
              have CC := (chg_set Wb X 1 (.int .i64 (wh (wv (x 1) (x 2) + wv (wh (s 5)) (wl (s 5)))))).trans (chg_set _ X 2 (.int .u64 (wl (wv (x 1) (x 2) + wv (wh (s 5)) (wl (s 5))))))
              exact ⟨(hXb.setN 1 _ .i64 (by omega) rfl).setN 2 _ .u64 (by omega) rfl, hRb.chg CC (by omega), hOb.chg CC hBX, ab_chg hwb CC (by omega)⟩
        case rest =>
          obtain ⟨hX5, hR5, hO5, hw5⟩ := hcut
          have o5 := hO5.at (i := 4) rfl
          have hbl := bl64 _ f5
          have HBt := fun W => floorBits.rbits_any (s 5) W f5.1 f5.2
          have HST : Hid (∀ i, i < 74 → cup (cup (cup (cup y 0 (wrap64 (x 0 + 1))) 1 (wh (wv (x 1) (x 2) + wv (wh (s 5)) (wl (s 5))))) 2 (wl (wv (x 1) (x 2) + wv (wh (s 5)) (wl (s 5))))) (9 + Lib.bitLen (s 5).natAbs) (wrap64 (x (9 + Lib.bitLen (s 5).natAbs) + 1)) i = x' i) := by
            intro i hi; rw [Hy.out, (HK0.out rfl).2, (HK0.out rfl).1]; exact ofStep_first s f5 i hi
          generalize Lib.bitLen (s 5).natAbs = bl at *
          have hbi : (bl : Int) < 65 := by omega
          have hcx : wc.cell? ⟨X, 9 + bl, none⟩ = some (.int .i64 (x (9 + bl))) := by
            rw [hX5.at (CA_at64 _ (9 + bl) (by omega) (by omega)), cup_ne _ _ _ _ (by omega), cup_ne _ _ _ _ (by omega), cup_ne _ _ _ _ (by omega), y9]
          have hfx := hX5.frozen (9 + bl)
          go_wp2_with (go_at_call 33; refine (HBt _).mono ?_; rintro e W5 ⟨rfl, rfl⟩)
          go_roundw
          case rel =>
            have C6 := chg_set W5 X (9 + bl) (.int .i64 (wrap64 (x (9 + bl) + 1)))
            have hX6 := hX5.setN (9 + bl) (wrap64 (x (9 + bl) + 1)) .i64 (by omega) (by unfold ck; rw [if_neg (by omega)])
            rw [CA_congr HST.out] at hX6
            exact ⟨0 + 1, by omega, by go_num, by rw [HX'.out]; exact hX6, hR5.chg C6 (by omega), ab_chg hw5 C6 (by omega)⟩
          case measure => simp [intOf]; omega
      · have p3 : (k : Int) ≠ 0 := by omega
        have kb : ((k : Int) == 0) = false := beq_eq_false_iff_ne.2 p3
        have Hd := HK1.out k0
        go_upto_if 40 with fail
        go_cut [] from 9 to 87 (fun wc => Blk wc X (CA (cup x 3 (min (x 3) (s 5)))) 54 ∧ Blk wc w.heap.size (CA zc) 54 ∧ Blk wc B #[.int .i64 (s 1), .int .i64 (s 2), .int .i64 (s 3), .int .i64 (s 4), .int .i64 (s 5)] 27 ∧ Blk wc C #[.int .i64 (s 3), .int .i64 (s 0), .int .i64 (s 1), .int .i64 (s 5)] 51 ∧ Below w.heap.size w wc)
        case first =>
          rcases Int.lt_or_le (s 5) (x 3) with p | p
          · go_wp2_with fail
            all_goals first | (exfalso; omega) | skip
            go_meet
            case rel =>
              have e : min (x 3) (s 5) = s 5 := by omega
              have CC := chg_set V2 X 3 (.int .i64 (s 5))
              exact ⟨by rw [e]; exact hX2.setN 3 (s 5) .i64 (by omega) rfl, hR2.chg CC (by omega), hO2.chg CC (by omega), hL2.chg CC (by omega), ab_chg hw2 CC (by omega)⟩
          · go_wp2_with fail
            all_goals first | (exfalso; omega) | skip
            go_meet
            case rel =>
              have e : min (x 3) (s 5) = x 3 := by omega
              exact ⟨by rw [e, CA_congr (cup_self x 3)]; exact hX2, hR2, hO2, hL2, hw2⟩
        case rest =>
          clear z3 z4 z5 z6 z7 z8 fa o4 l0 l1 l2 l3 hX2 hR2 hO2 hL2 hw2
          obtain ⟨hX2, hR2, hO2, hL2, hw2⟩ := hcut
          generalize hm3 : min (x 3) (s 5) = m3 at *
          have M3 : Hid (m3 = min (x 3) (s 5)) := hm3.symm
          clear hm3
          obtain ⟨z0, z1, z2, z3, z4, z5, z6, z7, z8⟩ := hX2.nine
          have fa := hX2.frozen
          have o4 := hO2.at (i := 4) rfl
          have l0 := hL2.at (i := 0) rfl
          have l1 := hL2.at (i := 1) rfl
          have l2 := hL2.at (i := 2) rfl
          have l3 := hL2.at (i := 3) rfl
          rw [cup_ne _ _ _ _ (by omega)] at z4 z5 z6 z7 z8
          clear z0 z1 z2 z3
          go_upto_if 52 with fail
          go_cut [] from 9 to 87 (fun wc => Blk wc X (CA (cup (cup x 3 m3) 4 (max (x 4) (s 5)))) 54 ∧ Blk wc w.heap.size (CA zc) 54 ∧ Blk wc B #[.int .i64 (s 1), .int .i64 (s 2), .int .i64 (s 3), .int .i64 (s 4), .int .i64 (s 5)] 27 ∧ Blk wc C #[.int .i64 (s 3), .int .i64 (s 0), .int .i64 (s 1), .int .i64 (s 5)] 51 ∧ Below w.heap.size w wc)
          case first =>
            rcases Int.lt_or_le (x 4) (s 5) with p | p
            · go_wp2_with fail
              all_goals first | (exfalso; omega) | skip
              go_meet
              case rel =>
                have e : max (x 4) (s 5) = s 5 := by omega
                have CC := chg_set wc X 4 (.int .i64 (s 5))
                exact ⟨by rw [e]; exact hX2.setN 4 (s 5) .i64 (by omega) rfl, hR2.chg CC (by omega), hO2.chg CC (by omega), hL2.chg CC (by omega), ab_chg hw2 CC (by omega)⟩
            · go_wp2_with fail
              all_goals first | (exfalso; omega) | skip
              go_meet
              case rel =>
                have e : max (x 4) (s 5) = x 4 := by omega
                exact ⟨by rw [e, show x 4 = cup x 3 m3 4 from (cup_ne _ _ _ _ (by omega)).symm, CA_congr (cup_self _ 4)]; exact hX2, hR2, hO2, hL2, hw2⟩
          case rest =>
            clear z4 z5 z6 z7 z8 fa o4 l0 l1 l2 l3 hX2 hR2 hO2 hL2 hw2
            obtain ⟨hX2, hR2, hO2, hL2, hw2⟩ := hcut
            generalize hm4 : max (x 4) (s 5) = m4 at *
            have M4 : Hid (m4 = max (x 4) (s 5)) := hm4.symm
            clear hm4
            obtain ⟨z0, z1, z2, z3, z4, z5, z6, z7, z8⟩ := hX2.nine
            have fa := hX2.frozen
            have l0 := hL2.at (i := 0) rfl
            have l1 := hL2.at (i := 1) rfl
            have l2 := hL2.at (i := 2) rfl
            have l3 := hL2.at (i := 3) rfl
            rw [cup_ne _ _ _ _ (by omega), cup_ne _ _ _ _ (by omega)] at z5 z6 z7 z8
            clear z0 z1 z2 z3 z4
            obtain ⟨L, HL⟩ : ∃ L : Bool, Hid (ltr (s 3) (s 0) (s 1) (s 5) (x 5) (x 6) (x 7) (x 8) = L) := ⟨_, rfl⟩
            obtain ⟨m5, H5⟩ : ∃ m, Hid (m = if L then s 3 else x 5) := ⟨_, rfl⟩
            obtain ⟨m6, H6⟩ : ∃ m, Hid (m = if L then s 0 else x 6) := ⟨_, rfl⟩
            obtain ⟨m7, H7⟩ : ∃ m, Hid (m = if L then s 1 else x 7) := ⟨_, rfl⟩
            obtain ⟨m8, H8⟩ : ∃ m, Hid (m = if L then s 5 else x 8) := ⟨_, rfl⟩
            go_upto_if 63 with (go_at_call 30; refine (rlater_any _ _ _ _ _ _ _ _ _).mono ?_; rintro e V5 ⟨rfl, b5⟩; rw [HL.out]; have hX2 := hX2.keep b5; have hR2 := hR2.keep b5; have hO2 := hO2.keep b5; have hL2 := hL2.keep b5; have hw2 := ab_trans hw2 b5; clear b5)
            go_cut [] from 9 to 87 (fun wc => Blk wc X (CA (cup (cup (cup (cup (cup (cup x 3 m3) 4 m4) 5 m5) 6 m6) 7 m7) 8 m8)) 54 ∧ Blk wc w.heap.size (CA zc) 54 ∧ Blk wc B #[.int .i64 (s 1), .int .i64 (s 2), .int .i64 (s 3), .int .i64 (s 4), .int .i64 (s 5)] 27 ∧ Blk wc C #[.int .i64 (s 3), .int .i64 (s 0), .int .i64 (s 1), .int .i64 (s 5)] 51 ∧ Below w.heap.size w wc)
            case first =>
              clear z5 z6 z7 z8 fa l0 l1 l2 l3
              obtain ⟨z0, z1, z2, z3, z4, z5, z6, z7, z8⟩ := hX2.nine
              have fa := hX2.frozen
              have l0 := hL2.at (i := 0) rfl
              have l1 := hL2.at (i := 1) rfl
              have l2 := hL2.at (i := 2) rfl
              have l3 := hL2.at (i := 3) rfl
              clear z0 z1 z2 z3 z4
              cases L with
              | true =>
                obtain rfl : m5 = s 3 := H5.out
                obtain rfl : m6 = s 0 := H6.out
                obtain rfl : m7 = s 1 := H7.out
                obtain rfl : m8 = s 5 := H8.out
                go_wp2_with fail
                go_meet
                case rel =>
                  have CC := ((chg_set V5 X 5 (.int .i64 (s 3))).trans (chg_set _ X 6 (.int .i64 (s 0)))).trans ((chg_set _ X 7 (.int .i64 (s 1))).trans (chg_set _ X 8 (.int .i64 (s 5))))
                  exact ⟨(((hX2.setN 5 _ .i64 (by omega) rfl).setN 6 _ .i64 (by omega) rfl).setN 7 _ .i64 (by omega) rfl).setN 8 _ .i64 (by omega) rfl, hR2.chg CC (by omega), hO2.chg CC (by omega), hL2.chg CC (by omega), ab_chg hw2 CC (by omega)⟩
              | false =>
                obtain rfl : m5 = x 5 := H5.out
                obtain rfl : m6 = x 6 := H6.out
                obtain rfl : m7 = x 7 := H7.out
                obtain rfl : m8 = x 8 := H8.out
                go_wp2_with fail
                go_meet
                case rel =>
                  refine ⟨?_, hR2, hO2, hL2, hw2⟩
                  rw [CA_congr (d := cup (cup x 3 m3) 4 m4)]
                  · exact hX2
                  · intro i _; unfold cup; repeat' split
                    all_goals simp_all
            case rest =>
              clear z5 z6 z7 z8 fa l0 l1 l2 l3 hX2 hR2 hO2 hL2 hw2
              obtain ⟨hX3, hR3, hO3, _, hw3⟩ := hcut
              obtain ⟨V3, rfl⟩ : ∃ V, V = wc := ⟨_, rfl⟩
              obtain ⟨y, hy⟩ : ∃ y, y = cup (cup (cup (cup (cup (cup x 3 m3) 4 m4) 5 m5) 6 m6) 7 m7) 8 m8 := ⟨_, rfl⟩
              have Hy : Hid (y = _) := hy
              rw [← hy] at hX3
              clear hy
              have y0 : y 0 = x 0 := by rw [Hy.out]; simp [cup]
              have y1 : y 1 = x 1 := by rw [Hy.out]; simp [cup]
              have y2 : y 2 = x 2 := by rw [Hy.out]; simp [cup]
              have y9 : ∀ j, y (9 + j) = x (9 + j) := by intro j; rw [Hy.out]; unfold cup; rw [if_neg (by omega), if_neg (by omega), if_neg (by omega), if_neg (by omega), if_neg (by omega), if_neg (by omega)]
              obtain ⟨z0, z1, z2, z3, z4, z5, z6, z7, z8⟩ := hX3.nine
              have fa := hX3.frozen
              have o4 := hO3.at (i := 4) rfl
              rw [y0] at z0
              rw [y1] at z1
              rw [y2] at z2
              have hBX : B ≠ X := by omega
              clear z3 z4 z5 z6 z7 z8
              go_upto_region 14 with fail
              have hX4 := hX3.setN 0 (wrap64 (x 0 + 1)) .i64 (by omega) rfl
              have C4 := chg_set V3 X 0 (.int .i64 (wrap64 (x 0 + 1)))
              have hR4 := hR3.chg C4 (by omega)
              have hO4 := hO3.chg C4 hBX
              have hw4 := ab_chg hw3 C4 (by omega)
              clear C4 z0 z1 z2 fa o4 hX3 hR3 hO3 hw3
              generalize V3.setCell ⟨X, 0, none⟩ (.int .i64 (wrap64 (x 0 + 1))) = V4 at hX4 hR4 hO4 hw4 ⊢
              go_cut [] from 9 to 87 (fun wc => Blk wc X (CA (cup (cup (cup y 0 (wrap64 (x 0 + 1))) 1 (wh (wv (x 1) (x 2) + wv (wh (s 5)) (wl (s 5))))) 2 (wl (wv (x 1) (x 2) + wv (wh (s 5)) (wl (s 5)))))) 54 ∧ Blk wc w.heap.size (CA zc) 54 ∧ Blk wc B #[.int .i64 (s 1), .int .i64 (s 2), .int .i64 (s 3), .int .i64 (s 4), .int .i64 (s 5)] 27 ∧ Below w.heap.size w wc)
              case first =>
                have z1 : V4.cell? ⟨X, 1, none⟩ = some (.int .i64 (x 1)) := by rw [← y1]; exact (hX4.nine).2.1
                have z2 : V4.cell? ⟨X, 2, none⟩ = some (.int .u64 (x 2)) := by rw [← y2]; exact (hX4.nine).2.2.1
                have o4 := hO4.at (i := 4) rfl
                have wx1 := HWx.out.2 1 (by omega) (by omega)
                have wx2 := HWx.out.1
                have hh := wh_bd (s 5)
                have hl := wl_bd (s 5)
                have hXl := hX4.lt
                have hOl := hO4.lt
                have hRl := hR4.lt
                go_region_with (first
                  | (go_at_call 32; refine (rof2_any _ _ f5.1 f5.2).mono ?_; rintro e Wa ⟨rfl, ba⟩; have ba := undrew ba; have za1 := keep_cell ba z1 hXl; have za2 := keep_cell ba z2 hXl; have hXa := hX4.keep ba; have hRa := hR4.keep ba; have hOa := hO4.keep ba; have hwa := ab_trans hw4 ba; have faa := hXa.frozen; clear ba)
                  | (go_at_call 31; refine (radd_any _ _ _ _ _ wx1.1 wx1.2 wx2.1 wx2.2 hh.1 hh.2 hl.1 hl.2).mono ?_; rintro e Wb ⟨rfl, bb⟩; have hXb := hXa.keep bb; have hRb := hRa.keep bb; have hOb := hOa.keep bb; have hwb := ab_trans hwa bb; have fab := hXb.frozen; obtain ⟨zb0, zb1, zb2, zb3, zb4, zb5, zb6, zb7, zb8⟩ := hXb.nine; clear bb))
                all_goals
                  go_wp2_with fail
                  go_meet
                  case rel =>
                    have CC := (chg_set Wb X 1 (.int .i64 (wh (wv (x 1) (x 2) + wv (wh (s 5)) (wl (s 5)))))).trans (chg_set _ X 2 (.int .u64 (wl (wv (x 1) (x 2) + wv (wh (s 5)) (wl (s 5))))))
                    exact ⟨(hXb.setN 1 _ .i64 (by omega) rfl).setN 2 _ .u64 (by omega) rfl, hRb.chg CC (by omega), hOb.chg CC hBX, ab_chg hwb CC (by omega)⟩
              case rest =>
                obtain ⟨hX5, hR5, hO5, hw5⟩ := hcut
                have o5 := hO5.at (i := 4) rfl
                have hbl := bl64 _ f5
                have HBt := fun W => floorBits.rbits_any (s 5) W f5.1 f5.2
                have HST : Hid (∀ i, i < 74 → cup (cup (cup (cup y 0 (wrap64 (x 0 + 1))) 1 (wh (wv (x 1) (x 2) + wv (wh (s 5)) (wl (s 5))))) 2 (wl (wv (x 1) (x 2) + wv (wh (s 5)) (wl (s 5))))) (9 + Lib.bitLen (s 5).natAbs) (wrap64 (x (9 + Lib.bitLen (s 5).natAbs) + 1)) i = x' i) := by
                  intro i hi; rw [Hy.out, Hd, M3.out, M4.out]; exact ofStep_next x s m5 m6 m7 m8 HWx.out f5 (by rw [HL.out]; exact H5.out) (by rw [HL.out]; exact H6.out) (by rw [HL.out]; exact H7.out) (by rw [HL.out]; exact H8.out) i hi
                generalize Lib.bitLen (s 5).natAbs = bl at *
                have hbi : (bl : Int) < 65 := by omega
                have hcx : wc.cell? ⟨X, 9 + bl, none⟩ = some (.int .i64 (x (9 + bl))) := by
                  rw [hX5.at (CA_at64 _ (9 + bl) (by omega) (by omega)), cup_ne _ _ _ _ (by omega), cup_ne _ _ _ _ (by omega), cup_ne _ _ _ _ (by omega), y9]
                have hfx := hX5.frozen (9 + bl)
                go_wp2_with (go_at_call 33; refine (HBt _).mono ?_; rintro e W5 ⟨rfl, rfl⟩)
                go_roundw
                case rel =>
                  have C6 := chg_set W5 X (9 + bl) (.int .i64 (wrap64 (x (9 + bl) + 1)))
                  have hX6 := hX5.setN (9 + bl) (wrap64 (x (9 + bl) + 1)) .i64 (by omega) (by unfold ck; rw [if_neg (by omega)])
                  rw [CA_congr HST.out] at hX6
                  exact ⟨k + 1, by omega, by go_num, by rw [HX'.out]; exact hX6, hR5.chg C6 (by omega), ab_chg hw5 C6 (by omega)⟩
                case measure => simp [intOf]; omega
end Go.Proofs.Ytfnageillhpjpaa
