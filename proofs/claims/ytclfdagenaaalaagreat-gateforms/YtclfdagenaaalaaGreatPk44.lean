/-
  slices.Repeat of one flow; basin.New.
  Basin's leastMark, Closed, Mark.
  Basin's ahead: the places of a lane's cells that are ahead of a place, as they are met.
  slices.SortFunc of at most one place; basin's List where there is at most one cell.
  A nil basin; the law's alive.
  Plain mathematics: a basin's cells are what the samples that it took come to.
  Plain mathematics: a basin that is fed with least cuts takes everything, as long as there is room.
-/
import Derived.Test.YtclfdagenaaalaaGreatPk43
import Derived.Test.YtclfdagenaaalaaGreatPk27
import Derived.Test.YtclfdagenaaalaaGreatPk24
import Derived.Test.YtclfdagenaaalaaGreatPk28
import Derived.Lib.MinMax
import Derived.Test.YtclfdagenaaalaaGreatPk34
namespace Go.Proofs.YtclfdagenaaalaaGreat
open Go.RowKit Go.Maps
set_option linter.unusedVariables false
set_option maxRecDepth 100000

def zFl : Flw := ⟨0, 0, false⟩
theorem eltFl : Tryz.prog.underlying 112 = some (.slice (Tryz.prog.elem 112)) := by kernel_rfl
theorem sizeFlw (w : World) : (sizeOf (Tryz.prog.elem 112)).run Tryz.prog w = .ok 3 w := by kernel_rfl
theorem infoFl3 : (Tryz.prog.info? 115).map (fun i => (i.zero, i.size, i.bytes)) = some (some (.agg #[.int .i64 0, .int .i64 0, .bool false]), 3, 24) := by kernel_rfl
theorem sizeFl3 : (Tryz.prog.info? 115).map (·.size) = some 3 := by kernel_rfl
theorem e3f_splice (p : Flw) (n m c : Nat) (h : n + m ≤ c) (z : Flw) : (E3f.fl (List.replicate n p ++ List.replicate (c - n) z)).take (n * 3) ++ E3f.fl (List.replicate m p) ++ (E3f.fl (List.replicate n p ++ List.replicate (c - n) z)).drop (n * 3 + m * 3) = E3f.fl (List.replicate (n + m) p ++ List.replicate (c - (n + m)) z) := by
  have h1 := E3f.fl_take (List.replicate n p ++ List.replicate (c - n) z) n
  have h2 := E3f.fl_drop (List.replicate n p ++ List.replicate (c - n) z) (n + m)
  rw [show (n + m) * E3f.k = n * 3 + m * 3 from Nat.add_mul n m 3] at h2
  rw [show n * E3f.k = n * 3 from rfl] at h1
  rw [h1, h2, ← E3f.fl_append, ← E3f.fl_append]
  congr 1
  have e : List.replicate (n + m) p = List.replicate n p ++ List.replicate m p := by simp
  rw [List.take_left' (by simp), e]
  congr 1
  rw [List.drop_append, List.drop_of_length_le (by simp), List.nil_append, List.length_replicate, List.drop_replicate]
  congr 1
  omega
set_option maxHeartbeats 2000000 in
theorem barep_any (p : Flw) (c : Nat) (g0 : Nat) (w : World) (h0 : 1 ≤ c) (hc : c ≤ 4) (hB : Blk w g0 (flA p) 115) :
    Calls Tryz.prog 53 #[.slice (some ⟨g0, 0, none⟩) 1 1, .int .i64 (c : Int)] w fun e w' => ∃ v, e = .returned v ∧ EO E3f 115 w' w.heap.size v (List.replicate c p) ∧ Below w.heap.size w w' := by
  have hci : (0 : Int) ≤ (c : Int) := by omega
  go_enter Tryz.func53, Tryz.ntmps53
  go_upto_region 6 with (go_at_call 70; refine (smul_any c (by omega) _).mono ?_; rintro e w ⟨rfl, rfl⟩)
  go_upto_region 7 with (refine mk_e (E := E3f) rfl zFl rfl Tryz.underlying112 infoFl3 rfl rfl rfl rfl (by omega) (by omega) ?_; intro W1 hB1 b1)
  have hs0 := hB.keep b1
  have hlen1 : (E3f.fl (List.replicate c zFl)).length = c * 3 := by rw [E3f.fl_len, List.length_replicate]; rfl
  have hr1 := fun ty => run_copy_rowK (P := Tryz.prog) W1 112 112 ty 115 3 w.heap.size 0 c c ⟨g0, 0, none⟩ 1 1 _ 115 (flA p).toList Tryz.underlying112 sizeFl3 hB1 (by rw [show Nat.min 1 c = 1 from Nat.min_eq_left h0]; rfl) (by
    intro j v hj
    rw [Addr.add_mid, Nat.zero_add, hs0.cell]; simpa using hj) (by simp [hlen1, flA]; omega) (by simp [flA, Value.oneCell'])
  have HE1 : Hid (E3f.fl (List.replicate c zFl) = E3f.fl (List.replicate c zFl)) := rfl
  have hx1 : ((E3f.fl (List.replicate c zFl)).toArray.toList.take 0 ++ (flA p).toList ++ (E3f.fl (List.replicate c zFl)).toArray.toList.drop (0 + (flA p).toList.length)) = E3f.fl (List.replicate 1 p ++ List.replicate (c - 1) zFl) := by
    have := e3f_splice p 0 1 c (by omega) zFl
    simpa [En.fl_one1, E3f, flA] using this
  rw [hx1, show Nat.min 1 c = 1 from Nat.min_eq_left h0] at hr1
  have hB2 : Blk (W1.setRow w.heap.size (E3f.fl (List.replicate 1 p ++ List.replicate (c - 1) zFl)).toArray) w.heap.size (E3f.fl (List.replicate 1 p ++ List.replicate (c - 1) zFl)).toArray 115 := blk_setRow hB1 _
  have C2 := chg_setRow W1 w.heap.size (E3f.fl (List.replicate 1 p ++ List.replicate (c - 1) zFl)).toArray
  clear hx1 HE1
  generalize W1.setRow w.heap.size (E3f.fl (List.replicate 1 p ++ List.replicate (c - 1) zFl)).toArray = W2 at *
  have b2 := ab_chg b1 C2 (Nat.le_refl _)
  go_upto_region 8 with (refine cp_l rfl rfl _ _ rfl rfl hr1 ?_)
  clear hr1 hB1 hs0 hB b1 C2 hlen1
  go_loopw [8] (fun n wr => ∃ k : Nat, 1 ≤ k ∧ k ≤ c ∧ n = .int .i64 (k : Int) ∧ Blk wr w.heap.size (E3f.fl (List.replicate k p ++ List.replicate (c - k) zFl)).toArray 115 ∧ Below w.heap.size w wr) (fun n _ => c - (intOf n).toNat)
  case atStart => exact ⟨1, Nat.le_refl _, h0, rfl, hB2, b2⟩
  case round =>
    clear hB2 b2
    obtain ⟨k, hk0, hk, rfl, hB, hb⟩ := hrel
    by_cases hkc : k = c
    · subst hkc
      rw [Nat.sub_self, List.replicate_zero, List.append_nil] at hB
      have HB : Hid (Blk wr w.heap.size (E3f.fl (List.replicate k p)).toArray 115) := hB
      clear hB
      go_wp2_with fail
      go_ret
      refine ⟨_, rfl, eo_of (n := k) (own_blkE HB.out (Nat.le_refl _) (by rw [E3f.fl_len, List.length_replicate]) (by unfold maxLen; omega)), hb⟩
    · have hki : (k : Int) < (c : Int) := by omega
      obtain ⟨m, hm⟩ : ∃ m, m = Nat.min k (c - k) := ⟨_, rfl⟩
      have hm1 : 1 ≤ m := by rw [hm]; exact Nat.le_min.2 ⟨hk0, by omega⟩
      have hm2 : m ≤ k := by rw [hm]; exact Nat.min_le_left _ _
      have hm3 : m ≤ c - k := by rw [hm]; exact Nat.min_le_right _ _
      obtain ⟨o', es, ho'⟩ := sliced_some w.heap.size 0 k c c 3
      have ho2 := ho' (by omega)
      rw [Nat.zero_add] at ho2
      subst ho2
      have hlen : (E3f.fl (List.replicate k p ++ List.replicate (c - k) zFl)).length = c * 3 := by
        rw [E3f.fl_len, List.length_append, List.length_replicate, List.length_replicate, show k + (c - k) = c by omega]; rfl
      have hr := fun (V : World) (hV : Blk V w.heap.size (E3f.fl (List.replicate k p ++ List.replicate (c - k) zFl)).toArray 115) ty => run_copy_rowK (P := Tryz.prog) V 112 112 ty 115 3 w.heap.size (k * 3) (c - k) (c - k) ⟨w.heap.size, 0, none⟩ k c _ 115 (E3f.fl (List.replicate m p)) Tryz.underlying112 sizeFl3 hV (by rw [← hm, E3f.fl_len, List.length_replicate]; rfl) (by
        intro j v hj
        have hj2 := (List.getElem?_eq_some_iff.1 hj).1
        have e : E3f.fl (List.replicate k p ++ List.replicate (c - k) zFl) = E3f.fl (List.replicate m p) ++ E3f.fl (List.replicate (k - m) p ++ List.replicate (c - k) zFl) := by
          rw [← E3f.fl_append, ← List.append_assoc]
          congr 2
          rw [List.replicate_append_replicate]; congr 1; omega
        rw [Addr.add_mid, Nat.zero_add, hV.cell, e]
        simp only [List.getElem?_toArray]
        rw [List.getElem?_append_left hj2]
        exact hj) (by simp only [List.size_toArray]; rw [hlen, E3f.fl_len, List.length_replicate]; show k * 3 + m * 3 ≤ c * 3; omega) (E3f.fl_cell _)
      rw [← hm] at hr
      have hsp := e3f_splice p k m c (by omega) zFl
      simp only [E3f.fl_len, List.length_replicate, show E3f.k = 3 from rfl] at hr
      rw [hsp] at hr
      clear hsp hlen hm ho'
      go_upto_region 9 with fail
      refine wp_region_held_drew (S := fun _ => True) (by kernel_rfl) trivial (fun hHeld => ?_)
      have hBV : Blk wr.drew w.heap.size (E3f.fl (List.replicate k p ++ List.replicate (c - k) zFl)).toArray 115 := hB
      have hbV : Below w.heap.size w wr.drew := ab_drew hb
      generalize wr.drew = V at *
      refine takeH (i := 0) (some 38) rfl rfl (by kernel_rfl) (by kernel_rfl) (by kernel_rfl) (fun _ _ _ h => h) (by rfl) (fun w hSw => by (try dsimp only at hSw); go_simp; try rfl) hHeld ?_
      go_frame
      refine takeH (i := 1) (some 39) rfl rfl (by kernel_rfl) (by kernel_rfl) (by kernel_rfl) (fun _ _ _ h => h) (by rfl) (fun w hSw => by (try dsimp only at hSw); go_simp; try rfl) hHeld ?_
      go_frame
      refine takeH (i := 2) (some 40) rfl rfl (by kernel_rfl) (by kernel_rfl) (by kernel_rfl) (fun _ _ _ h => h) (by rfl) (fun w hSw => by (try dsimp only at hSw); go_simp; try rfl) hHeld ?_
      go_frame
      refine takeH (i := 3) (some 41) rfl rfl (by kernel_rfl) (by kernel_rfl) (by kernel_rfl) (fun _ _ _ h => h) (by rfl) (fun w hSw => by (try dsimp only at hSw); (exact slo_l (x := .tmp 39) (y := .tmp 40) rfl rfl rfl rfl eltFl (sizeFlw _) (by omega) (by omega) es)) hHeld ?_
      go_frame
      refine takeH (i := 4) (some 42) rfl rfl (by kernel_rfl) (by kernel_rfl) (by kernel_rfl) (fun _ _ _ h => h) (by rfl) (fun w hSw => by (try dsimp only at hSw); go_simp; try rfl) hHeld ?_
      go_frame
      refine takeH (i := 5) (some 43) rfl rfl (by kernel_rfl) (by kernel_rfl) (by kernel_rfl) (fun _ _ _ h => h) (by rfl) (fun w hSw => by (try dsimp only at hSw); go_simp; try rfl) hHeld ?_
      go_frame
      refine takeH (i := 6) (some 44) rfl rfl (by kernel_rfl) (by kernel_rfl) (by kernel_rfl) (fun _ _ _ h => h) (by rfl) (fun w hSw => by (try dsimp only at hSw); (exact slo_h (x := .tmp 42) (z := .tmp 43) rfl rfl rfl rfl eltFl (sizeFlw _) (by omega))) hHeld ?_
      go_frame
      refine wpAnyH_ready (rs := [7]) (by kernel_rfl) (by simp) (AllReadyH.cons rfl (fun K hK => ?_) AllReadyH.nil)
      rw [if_pos (by rfl)]
      refine cpW (some 45) rfl rfl _ _ rfl rfl (hr V hBV) ?_
      have hB2 : Blk (V.setRow w.heap.size (E3f.fl (List.replicate (k + m) p ++ List.replicate (c - (k + m)) zFl)).toArray) w.heap.size (E3f.fl (List.replicate (k + m) p ++ List.replicate (c - (k + m)) zFl)).toArray 115 := blk_setRow hBV _
      have b2 := ab_chg hbV (chg_setRow V w.heap.size (E3f.fl (List.replicate (k + m) p ++ List.replicate (c - (k + m)) zFl)).toArray) (Nat.le_refl _)
      refine hK.out _ _ trivial (fun hHeld => ?_)
      clear hK K hr hBV hbV
      generalize V.setRow w.heap.size (E3f.fl (List.replicate (k + m) p ++ List.replicate (c - (k + m)) zFl)).toArray = W2 at *
      have hadd1 : IntKind.i64.wrap ((k : Int) + (m : Int)) = (k : Int) + (m : Int) := by simp [IntKind.wrap, IntKind.signed, IntKind.bits] <;> omega
      go_frame
      refine takeH (i := 8) (some 46) rfl rfl (by kernel_rfl) (by kernel_rfl) (by kernel_rfl) (fun _ _ _ h => h) (by rfl) (fun w hSw => by (try dsimp only at hSw); go_simp; try rfl) hHeld ?_
      go_frame
      refine takeH (i := 9) (some 8) rfl rfl (by kernel_rfl) (by kernel_rfl) (by kernel_rfl) (fun _ _ _ h => h) (by rfl) (fun w hSw => by (try dsimp only at hSw); go_simp; try rfl) hHeld ?_
      go_frame
      refine wpAnyH_done (by kernel_rfl) ?_ _
      go_wp2_with fail
      exact ⟨⟨k + m, by omega, by omega, by rw [Int.natCast_add], hB2, b2⟩, by simp only [intOf]; omega⟩
theorem newOK_iff {n : Int} {res : List Int} {sh mo : Int} : newOK n res sh mo = true ↔ (1 ≤ n ∧ n ≤ 4) ∧ goodR res sh = true ∧ (1 ≤ mo ∧ mo ≤ 1024) := by
  unfold newOK
  simp only [Bool.and_eq_true, decide_eq_true_eq]
  constructor
  · rintro ⟨⟨a, b⟩, c⟩; exact ⟨a, b, c⟩
  · rintro ⟨a, b, c⟩; exact ⟨⟨a, b⟩, c⟩
theorem okb_new {n : Nat} {res : List Int} {sh mo : Int} (h : newOK (n : Int) res sh mo = true) (hr : ∀ r ∈ res, r ≤ 9223372036854775807) : Okb (newBsn n res sh mo) := by
  obtain ⟨a, b, c⟩ := newOK_iff.1 h
  obtain ⟨b1, b2, b3⟩ := goodR_iff.1 b
  refine ⟨b2.1, b2.2, fun r h => ⟨b1 r h, hr r h⟩, b3.1, b3.2, c.1, c.2, ?_, ?_, ?_, ?_, ?_, List.nodup_nil, ?_, fun k h => (by cases h), fun k => wf_zc, fun k _ => rfl⟩
  · show 1 ≤ (List.replicate n newFl).length; rw [List.length_replicate]; omega
  · show (List.replicate n newFl).length ≤ 4; rw [List.length_replicate]; omega
  · intro f hf
    have := List.eq_of_mem_replicate hf
    subst this
    unfold newFl J64; dsimp only; omega
  · show ((List.replicate (res.length * sh.toNat) lstP).length : Int) = (res.length : Int) * sh
    rw [List.length_replicate, Int.natCast_mul, Int.toNat_of_nonneg (by omega)]
  · intro p hp
    have := List.eq_of_mem_replicate hp
    subst this
    unfold lstP J64; dsimp only; omega
  · show ((0 : Nat) : Int) ≤ mo; omega
theorem banew_no (n : Int) (v : Value) (res : List Int) (sh mo : Int) (w : World) (hv : Is w v res) (h : newOK n res sh mo = false) :
    Calls Tryz.prog 33 #[.int .i64 n, v, .int .i64 sh, .int .i64 mo] w fun e w' => e = .returned (.tuple #[.pointer none, Err 2]) ∧ w' = w := by
  obtain ⟨q, cap, hf⟩ := hv.form
  have HG := bgood_any v res sh w hv
  rw [hf] at HG ⊢
  generalize res.length = k at *
  have HN : Hid (newOK n res sh mo = false) := h
  clear h hv hf
  cases a1 : wiB n 4
  · go_enter Tryz.func33, Tryz.ntmps33
    go_wp2_with (go_at_call 51; refine (bwithin_any _ _ _).mono ?_; rintro e w ⟨rfl, rfl⟩; rw [a1])
    go_ret2
    exact ⟨rfl, rfl⟩
  · cases a2 : goodR res sh
    · rw [a2] at HG
      go_enter Tryz.func33, Tryz.ntmps33
      go_wp2_with (first
        | (go_at_call 51; refine (bwithin_any _ _ _).mono ?_; rintro e w ⟨rfl, rfl⟩; rw [a1])
        | (go_at_call 52; refine HG.mono ?_; rintro e w ⟨rfl, rfl⟩))
      go_ret2
      exact ⟨rfl, rfl⟩
    · have a3 : wiB mo 1024 = false := by
        cases hh : wiB mo 1024
        · rfl
        · have h1 := HN.out
          have : newOK n res sh mo = true := newOK_iff.2 ⟨of_decide_eq_true a1, a2, of_decide_eq_true hh⟩
          rw [this] at h1; cases h1
      rw [a2] at HG
      go_enter Tryz.func33, Tryz.ntmps33
      go_wp2_with (first
        | (go_at_call 51; refine (bwithin_any _ _ _).mono ?_; rintro e w ⟨rfl, rfl⟩; first | rw [a1] | rw [a3])
        | (go_at_call 52; refine HG.mono ?_; rintro e w ⟨rfl, rfl⟩))
      go_ret2
      exact ⟨rfl, rfl⟩
theorem bsv_l {P : Program} {ops : Array Oper} {rest : List Oper} {o : Oper} {a : Act} {w : World} {Q : Exit → Act → World → Prop} (hw : Region.wanted o (yielded ops a.tmps) = true) {t : TypeId} {n : Nat} {parts : Array (Nat × Operand)} (ho : o.op = .buildSlice t n parts) {L : Array (Nat × Value)} (hl : parts.map (fun (i, x) => (i, a.eval x)) = L) {v : Value} {w' : World}
    (hr : (Instr.buildSlice t n L).run P w = .ok v w') (h : wpList P ops Q rest (a.put o.dst v) w') : wpList P ops Q (o :: rest) a w := by
  unfold wpList
  rw [if_pos hw]
  left
  unfold Oper.wp execOp
  simp only [ho, Sem.run_bind, hl, hr, Result.andThen_ok]
  exact h
theorem bfl1 (w : World) : (Instr.buildSlice 112 1 #[(0, .agg #[.int .i64 1, .int .i64 0, .bool false])]).run Tryz.prog w = .ok (.slice (some ⟨w.heap.size, 0, none⟩) 1 1) (w.alloc (.cells #[.int .i64 1, .int .i64 0, .bool false] 115)) := by kernel_rfl
theorem bapl1 (x y : Int) (w : World) : (Instr.buildSlice 60 1 #[(0, .agg #[.int .i64 x, .int .i64 y])]).run Tryz.prog w = .ok (.slice (some ⟨w.heap.size, 0, none⟩) 1 1) (w.alloc (.cells #[.int .i64 x, .int .i64 y] 24)) := by kernel_rfl
theorem built_fl : Tryz.prog.built 115 [(0, .int .i64 1)] = some #[.int .i64 1, .int .i64 0, .bool false] := by kernel_rfl
theorem built_bs (q : Option Addr) (k c : Nat) (sh mo : Int) (g1 n1 c1 g2 n2 c2 m : Nat) : Tryz.prog.built 119 [(0, .slice q k c), (1, .int .i64 sh), (2, .int .i64 mo), (3, .slice (some ⟨g1, 0, none⟩) n1 c1), (4, .slice (some ⟨g2, 0, none⟩) n2 c2), (5, .map (some m))] = some #[.slice q k c, .int .i64 sh, .int .i64 mo, .slice (some ⟨g1, 0, none⟩) n1 c1, .slice (some ⟨g2, 0, none⟩) n2 c2, .map (some m)] := by kernel_rfl
/-- What New answers, where all is in form. -/
def NewE (e : Ending) (W : World) (B : Nat) (S : Bsn) : Prop := ∃ K : Bkk, e = .returned (.tuple #[bptr K, .nilIface]) ∧ Bq W B K S
set_option maxHeartbeats 1000000 in
theorem banew_ok (n : Nat) (v : Value) (res : List Int) (sh mo : Int) (w : World) (hv : Is w v res) (hr : ∀ r ∈ res, r ≤ 9223372036854775807) (h : newOK (n : Int) res sh mo = true) :
    Calls Tryz.prog 33 #[.int .i64 (n : Int), v, .int .i64 sh, .int .i64 mo] w fun e w' => NewE e w' w.heap.size (newBsn n res sh mo) ∧ Below w.heap.size w w' := by
  obtain ⟨q, cap, hf⟩ := hv.form
  obtain ⟨h1, h2, h3⟩ := newOK_iff.1 h
  obtain ⟨b1, b2, b3⟩ := goodR_iff.1 h2
  have HG := bgood_any v res sh w hv
  have HO := okb_new h hr
  have a1 : wiB (n : Int) 4 = true := decide_eq_true h1
  have a3 : wiB mo 1024 = true := decide_eq_true h3
  obtain ⟨sn, hsn⟩ : ∃ sn : Nat, sh = (sn : Int) := ⟨sh.toNat, by omega⟩
  have hcl : res.length * sn ≤ 12 := by have := Nat.mul_le_mul b2.2 (show sn ≤ 4 by omega); omega
  have hcl1 : 1 ≤ res.length * sn := by have := Nat.mul_le_mul b2.1 (show 1 ≤ sn by omega); omega
  have HM : Hid ((res.length : Int) * sh = ((res.length * sn : Nat) : Int)) := by show _ = _; rw [hsn, Int.natCast_mul]
  have hmul := HM.out
  have HTn : Hid (res.length * sh.toNat = res.length * sn) := by show _ = _; rw [hsn, Int.toNat_natCast]
  have hn1 : 1 ≤ n := by omega
  have hn4 : n ≤ 4 := by omega
  have hk3 : res.length ≤ 3 := b2.2
  have HV := hv
  rw [h2] at HG
  rw [hf] at HG HV ⊢
  clear hv hf h1 h3 h b1 b2 b3 hr
  generalize hkr : res.length = k at *
  generalize hcc : k * sn = c at *
  have HKR : Hid (res.length = k) := hkr
  have HNB : Hid (newBsn n res sh mo = ⟨res, sh, mo, List.replicate n newFl, List.replicate c lstP, [], fun _ => zc⟩) := by
    show _ = _
    unfold newBsn
    rw [hkr, HTn.out]
  have HOK : Hid (Okb (newBsn n res sh mo)) := HO
  have hmm := @run_makeMap Tryz.prog
  clear hsn hcc hmul h2 hkr HO
  go_enter Tryz.func33, Tryz.ntmps33
  go_upto_region 3 with (first
    | (go_at_call 51; refine (bwithin_any _ _ _).mono ?_; rintro e w ⟨rfl, rfl⟩; first | rw [a1] | rw [a3])
    | (go_at_call 52; refine HG.mono ?_; rintro e w ⟨rfl, rfl⟩))
  refine wp_region_lit ?_
  refine valS rfl (.slice q k cap) rfl ?_
  refine app_i w rfl rfl (l := []) (m := res) rfl (World.ownsRow_nil _ _ _ _) rfl HV rfl (by have := HKR.out; omega) (Below.refl _ _) ?_
  intro v' W1 hown hnil b1 hg1 hat
  have hO := io_of hown
  obtain ⟨q1, cap1, rfl⟩ := hO.is.form
  have HO1 : Hid (Io W1 w.heap.size (.slice q1 k cap1) res) := by
    have : Io W1 w.heap.size (.slice q1 res.length cap1) res := hO
    rw [HKR.out] at this
    exact this
  clear hnil hg1 hat hown hO HG HV
  have hkr2 : ([] ++ res : List Int).length = k := HKR.out
  rw [hkr2]
  clear hkr2
  go_frame
  refine valS rfl (.int .i64 sh) rfl ?_
  go_frame
  refine valS rfl (.int .i64 mo) rfl ?_
  go_frame
  refine valS rfl _ (bd_run rfl built_fl (by simp only [List.map_toArray, List.map_cons, List.map_nil]; rfl) _) ?_
  go_frame
  refine bsv_l rfl rfl (by simp only [List.map_toArray, List.map_cons, List.map_nil]; rfl) (bfl1 _) ?_
  obtain ⟨W2, hE2, hX2, b2⟩ := blk1 W1 #[.int .i64 1, .int .i64 0, .bool false] 115
  rw [hE2]
  clear hE2
  go_frame
  go_wp2_with (first
    | (go_at_call 53; refine (barep_any newFl n _ _ hn1 hn4 hX2).mono ?_; rintro e W3 ⟨v3, rfl, hO3, b3⟩; obtain ⟨g3, cap3, rfl⟩ := EO.at0 hO3 (by rw [List.length_replicate]; omega); rw [List.length_replicate]; go_frame)
    | (go_at_call 55; refine (least_any _).mono ?_; rintro e W4 ⟨rfl, b4⟩; go_frame))
  have hwr : wrap64 ((k : Int) * sh) = (c : Int) := by rw [HM.out]; unfold wrap64; omega
  rw [hwr]
  clear hwr
  obtain ⟨W5, hE5, hX5, b5⟩ := blk1 W4 #[.int .i64 (-9223372036854775808), .int .i64 (-9223372036854775808)] 24
  rw [hE5]
  clear hE5
  refine (srepeat_any lstP c _ _ hcl1 hcl hX5).mono ?_
  rintro e W6 ⟨v6, rfl, hO6, b6⟩
  obtain ⟨g6, cap6, rfl⟩ := EO.at0 hO6 (by rw [List.length_replicate]; omega)
  rw [List.length_replicate]
  have b12 := ab_trans b1 b2
  have b13 := ab_trans b12 b3
  have b14 := ab_trans b13 b4
  have b15 := ab_trans b14 b5
  have b16 := ab_trans b15 b6
  have HIo : Hid (Io W6 w.heap.size (.slice q1 k cap1) res) := HO1.out.keep (ab_trans (ab_trans (ab_trans (ab_trans b2 b3) b4) b5) b6)
  have hR3 := (EO.rw hO3).1
  have hG3 := (EO.rw hO3).2
  have HR3 : Hid (Rw E3f 115 W6 g3 cap3 (List.replicate n newFl) ∧ w.heap.size ≤ g3) := ⟨hR3.keep (ab_trans (ab_trans b4 b5) b6), Nat.le_trans b12.size hG3⟩
  have HR6 : Hid (Rw E2 24 W6 g6 cap6 (List.replicate c lstP) ∧ w.heap.size ≤ g6) := ⟨(EO.rw hO6).1, Nat.le_trans b15.size (EO.rw hO6).2⟩
  have HB : Hid (Below w.heap.size w W6) := b16
  clear hO3 hO6 hR3 hG3 b1 b2 b3 b4 b5 b6 b12 b13 b14 b15 b16 hX2 hX5 HO1
  go_wp2_with fail
  go_ret2
  have bM : Below W6.heap.size W6 (W6.alloc (.map #[] 0)) := ab_alloc (Below.refl _ _) _
  have bC : Below W6.heap.size W6 ((W6.alloc (.map #[] 0)).alloc (.cells #[.slice q1 k cap1, .int .i64 sh, .int .i64 mo, .slice (some ⟨g3, 0, none⟩) n cap3, .slice (some ⟨g6, 0, none⟩) c cap6, .map (some W6.heap.size)] 119)) := ab_alloc bM _
  have hsz : (W6.alloc (.map #[] 0)).heap.size = W6.heap.size + 1 := by simp
  have hBk := Blk.new (W6.alloc (.map #[] 0)) #[.slice q1 k cap1, .int .i64 sh, .int .i64 mo, .slice (some ⟨g3, 0, none⟩) n cap3, .slice (some ⟨g6, 0, none⟩) c cap6, .map (some W6.heap.size)] 119
  rw [hsz] at hBk
  have hCm := (cm_new W6 (fun _ => zc)).keep (ab_alloc (Below.refl _ _) (.cells #[.slice q1 k cap1, .int .i64 sh, .int .i64 mo, .slice (some ⟨g3, 0, none⟩) n cap3, .slice (some ⟨g6, 0, none⟩) c cap6, .map (some W6.heap.size)] 119))
  have hok := HOK.out
  rw [HNB.out] at hok ⊢
  have hB6 := HB.out.size
  refine ⟨⟨⟨W6.heap.size + 1, W6.heap.size, g3, cap3, g6, cap6, .slice q1 k cap1⟩, rfl, ⟨?_, by show w.heap.size ≤ W6.heap.size + 1; omega, HIo.out.keep bC, HR3.out.1.keep bC, HR3.out.2, HR6.out.1.keep bC, HR6.out.2, hCm, hB6, hok⟩⟩, ab_trans HB.out bC⟩
  show Blk _ (W6.heap.size + 1) (bsC _ sh mo (List.replicate n newFl).length (List.replicate c lstP).length) _
  rw [List.length_replicate, List.length_replicate]
  exact hBk
end Go.Proofs.YtclfdagenaaalaaGreat
namespace Go.Proofs.YtclfdagenaaalaaGreat
open Go.RowKit Go.Maps
set_option linter.unusedVariables false
set_option maxRecDepth 100000

def lmK (l : List Flw) : Int := l.foldl (fun a f => min a f.mt) 9223372036854775807
theorem lmK_snoc {l : List Flw} {k : Nat} {f : Flw} (h : l[k]? = some f) : lmK (l.take (k + 1)) = min (lmK (l.take k)) f.mt := by
  unfold lmK
  rw [List.take_add_one, h]
  simp only [Option.toList_some, List.foldl_append, List.foldl_cons, List.foldl_nil]
theorem lmK_J : ∀ (l : List Flw) (a : Int), J64 a → (∀ f ∈ l, J64 f.mt) → J64 (l.foldl (fun a f => min a f.mt) a)
  | [], a, h, _ => h
  | f :: l, a, h, hl => lmK_J l _ (by have := hl f (by simp); unfold J64 at *; dsimp only; omega) (fun g hg => hl g (by simp [hg]))
/-- What leastMark answers. -/
def lmB (l : List Flw) : Bool := l.all fun f => f.md
def lmV (l : List Flw) : Int := if lmB l = true then lmK l else 0
theorem lmV_yes {l : List Flw} (h : lmB l = true) : lmV l = lmK l := by unfold lmV; rw [if_pos h]
theorem lmV_no {l : List Flw} (h : lmB l = false) : lmV l = 0 := by unfold lmV; rw [if_neg (by rw [h]; simp)]
set_option maxHeartbeats 1000000 in
theorem baleast_any {B : Nat} {K : Bkk} {S : Bsn} (w : World) (h : Bq w B K S) : Calls Tryz.prog 62 #[bptr K] w fun e w' => e = .returned (.tuple #[.int .i64 (lmV S.fl), .bool (lmB S.fl)]) ∧ Below w.heap.size w w' := by
  obtain ⟨-, -, -, c3, -, -⟩ := h.cells w (Below.refl _ _)
  have HC : Hid (∀ V k f, Below w.heap.size w V → S.fl[k]? = some f → V.cell? ⟨K.gf, k * 3, none⟩ = some (.int .i64 f.nx) ∧ V.cell? ⟨K.gf, k * 3 + 1, none⟩ = some (.int .i64 f.mt) ∧ V.cell? ⟨K.gf, k * 3 + 2, none⟩ = some (.bool f.md)) := fun V k f hb hf => ⟨(h.keep hb).fe.cell (i := 0) hf rfl, (h.keep hb).fe.cell (i := 1) hf rfl, (h.keep hb).fe.cell (i := 2) hf rfl⟩
  have HJ : Hid (∀ f ∈ S.fl, J64 f.mt) := fun f hf => (h.ok.ff f hf).2
  have hn4 := h.ok.f1
  clear h
  generalize hl : S.fl = l at *
  clear hl
  generalize hn : l.length = n at *
  obtain ⟨b, m, gf, cf, gb, cb, vr⟩ := K
  try dsimp only at *
  go_enter Tryz.func62, Tryz.ntmps62
  go_wp2_with fail
  go_loopw [4, 12] (fun x z wr => ∃ k : Nat, k ≤ n ∧ z = .int .i64 (k : Int) ∧ x = .int .i64 (lmK (l.take k)) ∧ (∀ f ∈ l.take k, f.md = true) ∧ Below w.heap.size w wr) (fun _ z _ => n - (intOf z).toNat)
  case atStart => exact ⟨0, by omega, rfl, rfl, fun f hf => by simp at hf, Below.refl _ _⟩
  case round =>
    obtain ⟨k, hk, rfl, rfl, hall, hw⟩ := hrel
    by_cases c : k = n
    · subst c
      rw [List.take_of_length_le (by omega)] at hall ⊢
      have HB : Hid (lmB l = true) := by show _ = _; unfold lmB; rw [List.all_eq_true]; exact hall
      have HV : Hid (lmV l = lmK l) := lmV_yes HB.out
      clear hall
      generalize lmK l = x at *
      go_wp2_with fail
      go_ret2
      exact ⟨by rw [HB.out, HV.out]; rfl, hw⟩
    · obtain ⟨f, hf⟩ : ∃ f, l[k]? = some f := ⟨l[k], List.getElem?_eq_getElem (by omega)⟩
      obtain ⟨z0, z1, z2⟩ := HC.out _ k f hw hf
      have hki : (k : Int) < (n : Int) := by omega
      have HN : Hid (lmK (l.take (k + 1)) = min (lmK (l.take k)) f.mt) := lmK_snoc hf
      have HA : Hid (f.md = true → ∀ g ∈ l.take (k + 1), g.md = true) := by
        intro hm g hg
        rw [List.take_add_one, hf] at hg
        rcases List.mem_append.1 hg with hg | hg
        · exact hall g hg
        · simp at hg; subst hg; exact hm
      have HF : Hid (f.md = false → lmB l = false) := by
        intro hm
        cases hh : lmB l
        · rfl
        · unfold lmB at hh
          rw [List.all_eq_true] at hh
          have := hh f (List.mem_of_getElem? hf)
          rw [hm] at this; cases this
      have hj1 := HJ.out f (List.mem_of_getElem? hf)
      have hj2 : J64 (lmK (l.take k)) := lmK_J _ _ (by unfold J64; omega) (fun g hg => HJ.out g (List.mem_of_mem_take hg))
      generalize lmK (l.take k) = x at *
      obtain ⟨A, hE, hX, hwA⟩ := blk1 wr (flA f) 115
      have y1 : A.cell? ⟨wr.heap.size, 1, none⟩ = some (.int .i64 f.mt) := hX.at rfl
      have y2 : A.cell? ⟨wr.heap.size, 2, none⟩ = some (.bool f.md) := hX.at rfl
      unfold flA at hE
      clear hf hall HC
      unfold J64 at hj1 hj2
      go_upto_region 5 with fail
      clear hE z0 z1 z2
      cases hm : f.md
      · have HB := HF.out hm
        have HB' : Hid (lmB l = false) := HB
        have HV : Hid (lmV l = 0) := lmV_no HB
        rw [hm] at y2
        clear HB
        go_wp2_with fail
        go_ret2
        exact ⟨by rw [HB'.out, HV.out]; rfl, ab_trans hw hwA⟩
      · have HA' : Hid (∀ g ∈ l.take (k + 1), g.md = true) := HA.out hm
        rw [hm] at y2
        go_wp2_with fail
        go_roundw
        case rel => exact ⟨k + 1, by omega, by go_num, by rw [HN.out], HA'.out, ab_trans hw hwA⟩
        case measure => simp [intOf]; omega
/-- What Closed answers. -/
def clsP (S : Bsn) (i : Nat) : Int × Int := if lmB S.fl = true then (flD (lmV S.fl) ((S.res[i / S.sh.toNat]?).getD 0), -9223372036854775808) else (0, 0)
theorem clsP_no {S : Bsn} {i : Nat} (h : lmB S.fl = false) : clsP S i = (0, 0) := by unfold clsP; rw [if_neg (by rw [h]; simp)]
theorem clsP_yes {S : Bsn} {i : Nat} {r : Int} (h : lmB S.fl = true) (hr : S.res[i / S.sh.toNat]? = some r) : clsP S i = (flD (lmV S.fl) r, -9223372036854775808) := by unfold clsP; rw [if_pos h, hr]; rfl
theorem lmV_J {S : Bsn} (h : Okb S) : J64 (lmV S.fl) := by
  unfold lmV
  split
  · exact lmK_J _ _ (by unfold J64; omega) (fun g hg => (h.ff g hg).2)
  · unfold J64; omega
set_option maxHeartbeats 1000000 in
theorem baclosed_no {B : Nat} {K : Bkk} {S : Bsn} (n : Int) (w : World) (h : Bq w B K S) (hn : hasN n S.ba.length = false) :
    Calls Tryz.prog 39 #[bptr K, .int .i64 n] w fun e w' => e = .returned (.tuple #[Plc 0 0, .bool false]) ∧ Below w.heap.size w w' := by
  obtain ⟨A, hE, hX, hw⟩ := blk1 w #[.int .i64 0, .int .i64 0] 24
  have HS := bhasL_any n A (h.keep hw)
  rw [hn] at HS
  clear h hn
  obtain ⟨b, m, gf, cf, gb, cb, vr⟩ := K
  try dsimp only at *
  go_enter Tryz.func39, Tryz.ntmps39
  go_upto_region 2 with (go_at_call 44; refine HS.mono ?_; rintro e W ⟨rfl, rfl⟩)
  clear hE
  go_wp2_with (refine st_blk rfl rfl hX rfl rfl info_plc rfl (by simp [Value.oneCell']) ?_; intro W2 hX2 C2)
  exact bodyPost_ret (results_c2 rfl _ _ _ 24 _ (0, 0) _ _ rfl rfl hX2 Tryz.underlying24 rfl info_plc) rfl ⟨rfl, ab_chg hw C2 (Nat.le_refl _)⟩
theorem baclosed_nil (n : Int) (w : World) :
    Calls Tryz.prog 39 #[.pointer none, .int .i64 n] w fun e w' => e = .returned (.tuple #[Plc 0 0, .bool false]) ∧ Below w.heap.size w w' := by
  obtain ⟨A, hE, hX, hw⟩ := blk1 w #[.int .i64 0, .int .i64 0] 24
  go_enter Tryz.func39, Tryz.ntmps39
  go_upto_region 2 with (go_at_call 44; refine (bhasL_nil _ _).mono ?_; rintro e W ⟨rfl, rfl⟩)
  clear hE
  go_wp2_with (refine st_blk rfl rfl hX rfl rfl info_plc rfl (by simp [Value.oneCell']) ?_; intro W2 hX2 C2)
  exact bodyPost_ret (results_c2 rfl _ _ _ 24 _ (0, 0) _ _ rfl rfl hX2 Tryz.underlying24 rfl info_plc) rfl ⟨rfl, ab_chg hw C2 (Nat.le_refl _)⟩
set_option maxHeartbeats 2000000 in
theorem baclosed_at {B : Nat} {K : Bkk} {S : Bsn} (i : Nat) (w : World) (h : Bq w B K S) (hi : i < S.ba.length) :
    Calls Tryz.prog 39 #[bptr K, .int .i64 (i : Int)] w fun e w' => e = .returned (.tuple #[Plc (clsP S i).1 (clsP S i).2, .bool (lmB S.fl)]) ∧ Below w.heap.size w w' := by
  obtain ⟨A, hE, hX, hw⟩ := blk1 w #[.int .i64 0, .int .i64 0] 24
  have hA := h.keep hw
  have HS := bhasL_any (i : Int) A hA
  have hh : hasN (i : Int) S.ba.length = true := decide_eq_true (by omega)
  have HLm := baleast_any A hA
  rw [hh] at HS
  cases hb : lmB S.fl
  · rw [hb] at HLm
    rw [lmV_no hb] at HLm
    have HP : Hid (clsP S i = (0, 0)) := clsP_no hb
    rw [HP.out]
    clear h hA hh
    obtain ⟨b, m, gf, cf, gb, cb, vr⟩ := K
    try dsimp only at *
    go_enter Tryz.func39, Tryz.ntmps39
    go_upto_region 5 with (first
      | (go_at_call 44; refine HS.mono ?_; rintro e A ⟨rfl, rfl⟩)
      | (go_at_call 62; refine HLm.mono ?_; rintro e W3 ⟨rfl, b3⟩))
    clear hE
    have hX3 := hX.keep b3
    go_wp2_with (refine st_blk rfl rfl hX3 rfl rfl info_plc rfl (by simp [Value.oneCell']) ?_; intro W2 hX2 C2)
    exact bodyPost_ret (results_c2 rfl _ _ _ 24 _ (0, 0) _ _ rfl rfl hX2 Tryz.underlying24 rfl info_plc) rfl ⟨rfl, ab_chg (ab_trans hw b3) C2 (Nat.le_refl _)⟩
  · rw [hb] at HLm
    obtain ⟨sn, hsn⟩ : ∃ sn : Nat, S.sh = (sn : Int) := ⟨S.sh.toNat, by have := h.ok.s0; omega⟩
    have hs1 : 1 ≤ sn := by have := h.ok.s0; omega
    have hs4 : sn ≤ 4 := by have := h.ok.s1; omega
    have hil : i < S.res.length * sn := by
      have h1 := h.ok.bl
      rw [hsn, ← Int.natCast_mul] at h1
      omega
    have hj : i / sn < S.res.length := Nat.div_lt_of_lt_mul (by rwa [Nat.mul_comm])
    obtain ⟨r, hr⟩ : ∃ r, S.res[i / sn]? = some r := ⟨S.res[i / sn], List.getElem?_eq_getElem hj⟩
    have HP : Hid (clsP S i = (flD (lmV S.fl) r, -9223372036854775808)) := clsP_yes hb (by rw [hsn, Int.toNat_natCast]; exact hr)
    have hr2 := (h.ok.rr r (List.mem_of_getElem? hr)).2
    have hmJ := lmV_J h.ok
    rw [HP.out]
    dsimp only
    obtain ⟨q, cap, g, off, he, hc, hm, hp, hg, hrow⟩ := hA.re.is
    obtain rfl := hp (Nat.lt_of_le_of_lt (Nat.zero_le _) hj)
    have HC : Hid (∀ V, Below A.heap.size A V → V.cell? ⟨K.b, 0, none⟩ = some (.slice (some ⟨g, off, none⟩) S.res.length cap) ∧ V.cell? ⟨K.b, 1, none⟩ = some (.int .i64 (sn : Int)) ∧ V.cell? ⟨g, off + i / sn, none⟩ = some (.int .i64 r)) := fun V hb => by
      obtain ⟨c0, c1, -⟩ := hA.cells V hb
      rw [he] at c0
      rw [hsn] at c1
      exact ⟨c0, c1, keep_cell hb (hrow _ _ hr) (hg (Nat.lt_of_le_of_lt (Nat.zero_le _) hj))⟩
    have hq : Int.tdiv (i : Int) (sn : Int) = ((i / sn : Nat) : Int) := by rw [Int.ofNat_tdiv]
    have hj' : ((i / sn : Nat) : Int) < (S.res.length : Int) := by omega
    clear h hA hh hp hrow he hr hg hil hj hsn
    generalize lmV S.fl = lm at *
    generalize S.res.length = nr at *
    generalize i / sn = j at *
    obtain ⟨b, m, gf, cf, gb, cb, vr⟩ := K
    try dsimp only at *
    go_enter Tryz.func39, Tryz.ntmps39
    go_upto_region 6 with (first
      | (go_at_call 44; refine HS.mono ?_; rintro e A ⟨rfl, rfl⟩)
      | (go_at_call 62; refine HLm.mono ?_; rintro e W3 ⟨rfl, b3⟩))
    clear hE HS HLm
    have hX3 := hX.keep b3
    have hw3 := ab_trans hw b3
    have hzb : w.heap.size < W3.heap.size := hX3.lt
    have hsn0 : ¬ sn = 0 := by omega
    have hwj : IntKind.i64.wrap (j : Int) = (j : Int) := by simp [IntKind.wrap, IntKind.signed, IntKind.bits] <;> omega
    refine region_L 14 (S := fun w' => Below W3.heap.size W3 w') (by kernel_rfl) (ab_drew (Below.refl _ _)) (fun hHeld => ?_)
    refine takeP (i := 0) (some 21) (by rfl) rfl rfl (by kernel_rfl) (by kernel_rfl) (by kernel_rfl) (fun _ _ _ h => h) (by rfl) (fun w => by go_simp; try rfl) hHeld ?_
    go_frame
    refine takeP (i := 1) (some 22) (by rfl) rfl rfl (by kernel_rfl) (by kernel_rfl) (by kernel_rfl) (fun _ _ _ h => h) (by rfl) (fun w => by go_simp; try rfl) hHeld ?_
    go_frame
    refine takeP (i := 2) (some 23) (by rfl) rfl rfl (by kernel_rfl) (by kernel_rfl) (by kernel_rfl) (fun _ _ _ h => h) (by rfl) (fun w => by go_simp; try rfl) hHeld ?_
    go_frame
    refine takeP (i := 3) (some 24) (by rfl) rfl rfl (by kernel_rfl) (by kernel_rfl) (by kernel_rfl) (fun _ _ _ h => h) (by rfl) (fun w => by go_simp; try rfl) hHeld ?_
    go_frame
    refine takeL (i := 4) [14] (some 25) (by rfl) rfl rfl (by kernel_rfl) (by kernel_rfl) (by kernel_rfl) (by kernel_rfl) (fun _ _ _ h => h) (by rfl) (fun w hSw => by (try dsimp only at hSw); (obtain ⟨q0, q1, q2⟩ := HC.out _ (ab_trans b3 hSw); go_simp; try rfl)) hHeld ?_
    go_frame
    refine takeP (i := 5) (some 26) (by rfl) rfl rfl (by kernel_rfl) (by kernel_rfl) (by kernel_rfl) (fun _ _ _ h => h) (by rfl) (fun w => by go_simp; try rfl) hHeld ?_
    go_frame
    refine takeP (i := 6) (some 27) (by rfl) rfl rfl (by kernel_rfl) (by kernel_rfl) (by kernel_rfl) (fun _ _ _ h => h) (by rfl) (fun w => by go_simp; try rfl) hHeld ?_
    go_frame
    refine takeP (i := 7) (some 28) (by rfl) rfl rfl (by kernel_rfl) (by kernel_rfl) (by kernel_rfl) (fun _ _ _ h => h) (by rfl) (fun w => by go_simp; try rfl) hHeld ?_
    go_frame
    refine takeP (i := 8) (some 29) (by rfl) rfl rfl (by kernel_rfl) (by kernel_rfl) (by kernel_rfl) (fun _ _ _ h => h) (by rfl) (fun w => by go_simp; try rfl) hHeld ?_
    go_frame
    refine takeL (i := 9) [14] (some 30) (by rfl) rfl rfl (by kernel_rfl) (by kernel_rfl) (by kernel_rfl) (by kernel_rfl) (fun _ _ _ h => h) (by rfl) (fun w hSw => by (try dsimp only at hSw); (obtain ⟨q0, q1, q2⟩ := HC.out _ (ab_trans b3 hSw); go_simp; try rfl)) hHeld ?_
    go_frame
    refine takeL (i := 10) [14] (some 31) (by rfl) rfl rfl (by kernel_rfl) (by kernel_rfl) (by kernel_rfl) (by kernel_rfl) (fun _ _ _ h => h) (by rfl) (fun w hSw => by (try dsimp only at hSw); (go_simp; try rfl)) hHeld ?_
    go_frame
    clear hwj hsn0 hq
    refine takeL (i := 11) [14] (some 32) (by rfl) rfl rfl (by kernel_rfl) (by kernel_rfl) (by kernel_rfl) (by kernel_rfl) (fun _ _ _ h => h) (by rfl) (fun w hSw => by (try dsimp only at hSw); (go_simp; try rfl)) hHeld ?_
    go_frame
    refine takeL (i := 12) [14] (some 33) (by rfl) rfl rfl (by kernel_rfl) (by kernel_rfl) (by kernel_rfl) (by kernel_rfl) (fun _ _ _ h => h) (by rfl) (fun w hSw => by (try dsimp only at hSw); (obtain ⟨q0, q1, q2⟩ := HC.out _ (ab_trans b3 hSw); go_simp; try rfl)) hHeld ?_
    go_frame
    refine anyL_ready (rs := [13]) (by kernel_rfl) (by simp) (AllL.cons rfl (fun K hK => ?_) AllL.nil)
    go_simp
    refine (closed_any lm r _ hmJ.1 hmJ.2 hr2).mono ?_
    rintro e W4 ⟨rfl, b4⟩
    show K _ _
    have hX4 := (hX3.keep hHeld).keep b4
    refine hK.out _ _ (ab_trans hHeld b4) (fun hHeld => ?_)
    clear hK K
    refine anyL_ready (rs := [14]) (by kernel_rfl) (by simp) (AllL.last rfl (by kernel_rfl) (fun K hK => ?_))
    rw [if_pos (by rfl)]
    refine stW none rfl rfl hX4 rfl rfl info_plc rfl (by simp [Value.oneCell']) fun W5 hX5 C5 => ?_
    refine hK.out _ _ ?_
    clear hK K
    refine anyL_ready (rs := [15]) (by kernel_rfl) (by simp) (AllL.free rfl (by kernel_rfl) (fun K hK => ?_))
    go_simp
    refine hK.out _ _ ?_
    clear hK K
    refine anyL_done (by kernel_rfl) ?_
    have hw5 := ab_chg (ab_trans hw3 hHeld) C5 (Nat.le_refl _)
    go_wp2_with fail
    exact bodyPost_ret (results_c2 rfl _ _ _ 24 _ (0, 0) _ _ rfl rfl hX5 Tryz.underlying24 rfl info_plc) rfl ⟨rfl, hw5⟩
end Go.Proofs.YtclfdagenaaalaaGreat
namespace Go.Proofs.YtclfdagenaaalaaGreat
open Go.RowKit Go.Maps
set_option linter.unusedVariables false
set_option maxRecDepth 100000

/-- Which of some names are a lane's, ahead of a place; their places. -/
def selK (lane : Int) (pt : Int × Int) (k : Kyy) : Bool := decide (k.1 = lane) && pl k.2.1 k.2.2 pt.1 pt.2
def plsK (lane : Int) (pt : Int × Int) (l : List Kyy) : List (Int × Int) := (l.filter (selK lane pt)).map fun k => k.2
theorem plsK_snoc (lane : Int) (pt : Int × Int) (l : List Kyy) (k : Kyy) : plsK lane pt (l ++ [k]) = plsK lane pt l ++ (if selK lane pt k = true then [k.2] else []) := by
  unfold plsK
  rw [List.filter_append, List.map_append]
  congr 1
  simp only [List.filter_cons, List.filter_nil]
  split <;> simp
theorem plsK_len (lane : Int) (pt : Int × Int) (l : List Kyy) : (plsK lane pt l).length ≤ l.length := by
  unfold plsK
  rw [List.length_map]
  exact List.length_filter_le _ _
/-- How far the range has come. -/
structure Aw (w W : World) (K : Bkk) (S : Bsn) (D : DataW Value) (r : Nat) (got rest : List Kyy) (cnt : Nat) : Prop where
  rg : ∃ left, W.ranges Tryz.prog 125 hldV K.m r S.ks.length D left cnt ∧ ∀ k, KyOk k → left (kyL k) = decide (k ∈ rest)
  pm : S.ks.Perm (got ++ rest)
  bl : Below w.heap.size w W
  nr : w.heap.size ≤ r
theorem Aw.keep {w W W' : World} {K : Bkk} {S : Bsn} {D : DataW Value} {r : Nat} {got rest : List Kyy} {cnt : Nat} (h : Aw w W K S D r got rest cnt) (hb : Below W.heap.size W W') : Aw w W' K S D r got rest cnt := by
  refine ⟨?_, h.pm, ab_trans h.bl hb, h.nr⟩
  obtain ⟨left, ⟨es, clock, since, seen, c0, h1, h2, h3, h4, h5, h6⟩, hl⟩ := h.rg
  have l1 : K.m < W.heap.size := (Array.getElem?_eq_some_iff.1 h1).1
  have l2 : r < W.heap.size := (Array.getElem?_eq_some_iff.1 h5).1
  exact ⟨left, ⟨es, clock, since, seen, c0, (hb.block _ l1).trans h1, h2, h3, h4, (hb.block _ l2).trans h5, h6⟩, hl⟩
theorem perm_move {ks got rest : List Kyy} {k : Kyy} (h : ks.Perm (got ++ rest)) (hk : k ∈ rest) : ks.Perm (got ++ [k] ++ rest.erase k) := by
  refine h.trans ?_
  rw [List.append_assoc]
  exact List.Perm.append_left got (List.perm_cons_erase hk)
set_option maxHeartbeats 2000000 in
theorem bacoll_any {B : Nat} {K : Bkk} {S : Bsn} (lane : Int) (pt : Int × Int) (w : World) (h : Bq w B K S) (Post : Ending → World → Prop)
    (hPost : ∀ (v : Value) (got : List Kyy) (W : World), S.ks.Perm got → EO E2 24 W w.heap.size v (plsK lane pt got) → Below w.heap.size w W →
      Calls Tryz.prog 87 #[v, .func (.func 88) #[] #[]] W fun e w' => e = .returned (.tuple #[]) ∧ Post (.returned v) w') :
    Calls Tryz.prog 77 #[bptr K, .int .i64 lane, Plc pt.1 pt.2] w Post := by
  obtain ⟨A, hE, hX, hw⟩ := blk1 w #[.int .i64 pt.1, .int .i64 pt.2] 24
  have hA := h.keep hw
  obtain ⟨-, -, -, -, -, c5⟩ := hA.cells A (Below.refl _ _)
  obtain ⟨D0, hO, hD⟩ := hA.ce
  rw [hD.sz] at hO
  have HK : Hid (∀ k ∈ S.ks, KyOk k) := fun k hk => (h.ok.kk k hk).1
  have hkl : S.ks.length ≤ 1024 := by have := h.ok.kl; have := h.ok.m1; omega
  have HD : Hid (Dm D0 S.ks S.cv) := hD
  have HND : Hid S.ks.Nodup := h.ok.nd
  clear h hA hD
  generalize hn : S.ks.length = n at *
  have HN : Hid (S.ks.length = n) := hn
  clear hn
  obtain ⟨b, m, gf, cf, gb, cb, vr⟩ := K
  obtain ⟨t0, t1⟩ := pt
  try dsimp only at *
  have HX : Hid (∀ V, Below A.heap.size A V → V.cell? ⟨w.heap.size, 0, none⟩ = some (.int .i64 t0) ∧ V.cell? ⟨w.heap.size, 1, none⟩ = some (.int .i64 t1)) := fun V hb => ⟨(hX.keep hb).at rfl, (hX.keep hb).at rfl⟩
  go_enter Tryz.func77, Tryz.ntmps77
  go_wp2_with (at_range; refine wpList_range_own _ rfl _ 117 rfl 125 77 keyed16 Tryz.underlying117 hldV m n D0 rfl hO ?_; intro w0 hrg0 hg0 hs0)
  go_frame
  have bg0 : Below A.heap.size A w0 := ⟨hg0.os, hg0.tape, hg0.output, hg0.size, fun i hi => hg0.block i hi (by simp)⟩
  have hA0 : Aw A w0 ⟨b, m, gf, cf, gb, cb, vr⟩ S D0 A.heap.size [] S.ks n := by
    refine ⟨⟨_, by rw [HN.out]; rw [HD.out.sz, HN.out] at hrg0; exact hrg0, fun k hk => HD.out.hs k hk⟩, List.Perm.refl _, bg0, Nat.le_refl _⟩
  have hE0 : EO E2 24 w0 A.heap.size (.slice none 0 0) (plsK lane (t0, t1) []) := eo_nil _ _ _ _
  clear hrg0 hg0 c5 hO hE hX hs0 bg0
  go_loopw [7, 17] (fun x _ wr => ∃ got rest cnt, Aw A wr ⟨b, m, gf, cf, gb, cb, vr⟩ S D0 A.heap.size got rest cnt ∧ EO E2 24 wr A.heap.size x (plsK lane (t0, t1) got)) (fun _ _ wr => wr.rangeLeft m A.heap.size)
  case atStart => exact ⟨_, _, _, hA0, hE0⟩
  case round =>
    clear hA0 hE0
    obtain ⟨got, rest, cnt, hW, hE0⟩ := hrel
    obtain ⟨left, hrg, hl⟩ := hW.rg
    rw [HN.out] at hrg
    have HW : Hid (Aw A wr ⟨b, m, gf, cf, gb, cb, vr⟩ S D0 A.heap.size got rest cnt) := hW
    clear hW
    obtain ⟨qx, cx, hxf⟩ := hE0.form
    subst hxf
    have hnn := Nat.le_trans (plsK_len lane (t0, t1) got) (show got.length ≤ n by have := HW.out.pm.length_eq; rw [HN.out, List.length_append] at this; omega)
    generalize hN2 : (plsK lane (t0, t1) got).length = nn at *
    go_wp2_with (at_next; refine wpList_next_ranges _ rfl _ rfl 125 keyed16 hldV (fun x : { k : Kyy // KyOk k } => kyV x.1) id ky_inv2 held_inv m A.heap.size n D0 left cnt rfl hrg ?_ ?_)
    · intro _ hl0
      have hre : rest = [] := by
        cases hr : rest with
        | nil => rfl
        | cons k t =>
          have hk : k ∈ rest := by rw [hr]; simp
          have hko := HK.out k (HW.out.pm.mem_iff.2 (List.mem_append_right _ hk))
          have h1 := hl k hko
          rw [hl0, decide_eq_true hk] at h1
          cases h1
      have hpm : S.ks.Perm got := by
        have := HW.out.pm
        rw [hre, List.append_nil] at this
        exact this
      have HP := hPost (.slice qx nn cx) got wr hpm (own_less hE0 hw.size) (ab_trans hw HW.out.bl)
      clear hrg hl HW hre hpm hPost
      go_wp2_with (go_at_call 87; refine HP.mono ?_; rintro e W2 ⟨rfl, hp⟩)
      exact hp
    · intro ka kb kc hk v kl yd yp w1 cnt1 hkey hlk hv hat hrg1 hlt hg1 hs1 hen
      have hW := HW.out
      obtain rfl : kl = kyL (ka, kb, kc) := by
        rw [key16 hk] at hkey
        exact (Option.some.inj hkey).symm
      have hmem : (ka, kb, kc) ∈ rest := by
        have h1 := hl _ hk
        rw [hlk] at h1
        exact of_decide_eq_true h1.symm
      have b1 : Below A.heap.size A w1 := by
        have hf : Frm (fun k => k = A.heap.size) A w1 := (frm_below (X := fun k => k = A.heap.size) hW.bl).young (frm_grown (X := fun k => k = A.heap.size) hg1 rfl) (fun k hk e => e)
        exact hf.below (Nat.le_refl _) (fun k hk => by omega)
      have hE1 : EO E2 24 w1 A.heap.size (.slice qx nn cx) (plsK lane (t0, t1) got) := by
        refine own_at hE0 fun g hg => hg1.block g (World.ownsRow.lt hE0 g hg).2 (fun e => ?_)
        injection e with e
        obtain ⟨es, clock, since, seen, c0, h1, h2, h3, h4, h5, h6⟩ := hrg
        obtain ⟨cur, fr, e3⟩ := own_kindR hE0 hg
        rw [e] at e3
        rw [h5] at e3
        cases e3
      have hN : Aw A w1 ⟨b, m, gf, cf, gb, cb, vr⟩ S D0 A.heap.size (got ++ [(ka, kb, kc)]) (rest.erase (ka, kb, kc)) cnt1 := by
        refine ⟨⟨_, by rw [HN.out]; exact hrg1, fun k hk' => ?_⟩, perm_move hW.pm hmem, b1, Nat.le_refl _⟩
        have hnd : rest.Nodup := (List.nodup_append.1 (hW.pm.nodup_iff.1 HND.out)).2.1
        rw [same_iff hk' hk, hl k hk']
        by_cases e : k = (ka, kb, kc)
        · subst e
          simp [hnd.not_mem_erase]
        · simp [e, List.mem_erase_of_ne e]
      have HPL : Hid (plsK lane (t0, t1) (got ++ [(ka, kb, kc)]) = plsK lane (t0, t1) got ++ (if selK lane (t0, t1) (ka, kb, kc) = true then [(kb, kc)] else [])) := plsK_snoc _ _ _ _
      have hlt' : Hid (∀ c', c' ≤ cnt1 → c' < cnt) := fun c' h => by show _ < _; omega
      have hleft := hrg.left_eq
      clear hW HW hlk hv hat hs1 hg1 hrg1 hl hE0 hkey hrg
      unfold kyV at hen
      try dsimp only at hen
      obtain ⟨A2, hE2, hX2, hw2⟩ := blk1 w1 #[.int .i64 ka, .int .i64 kb, .int .i64 kc] 125
      have y0 : A2.cell? ⟨w1.heap.size, 0, none⟩ = some (.int .i64 ka) := hX2.at rfl
      have y1 : A2.cell? ⟨w1.heap.size, 1, none⟩ = some (.int .i64 kb) := hX2.at rfl
      have y2 : A2.cell? ⟨w1.heap.size, 2, none⟩ = some (.int .i64 kc) := hX2.at rfl
      obtain ⟨x0, x1⟩ := HX.out A2 (ab_trans b1 hw2)
      have hE2' := hE1.keep hw2
      have hN2' := hN.keep hw2
      clear hE1 hN
      by_cases hla : ka = lane
      · have hl1 : (ka == lane) = true := by simp [hla]
        cases hp : pl kb kc t0 t1
        · have HS : Hid (selK lane (t0, t1) (ka, kb, kc) = false) := by show _ = _; unfold selK; dsimp only; rw [hp, Bool.and_false]
          have HPL' : Hid (plsK lane (t0, t1) (got ++ [(ka, kb, kc)]) = plsK lane (t0, t1) got) := by show _ = _; rw [HPL.out, if_neg (by rw [HS.out]; simp), List.append_nil]
          clear hla HS HPL
          go_wp2_with (go_at_call 23; refine (pless_any _ _ _ _ _).mono ?_; rintro e W2 ⟨rfl, b2⟩; rw [hp])
          have hN3 := hN2'.keep b2
          obtain ⟨left3, hr3, -⟩ := hN3.rg
          go_roundw
          case rel => exact ⟨_, _, _, hN3, by rw [HPL'.out]; exact hE2'.keep b2⟩
          case measure => rw [hr3.left_eq, hleft]; exact hlt'.out _ (Nat.le_refl _)
        · have HS : Hid (selK lane (t0, t1) (ka, kb, kc) = true) := by show _ = _; unfold selK; dsimp only; rw [hp, hla]; simp
          have HPL' : Hid (plsK lane (t0, t1) (got ++ [(ka, kb, kc)]) = plsK lane (t0, t1) got ++ [(kb, kc)]) := by show _ = _; rw [HPL.out, if_pos HS.out]
          clear hla HS HPL
          go_upto_region 6 with (go_at_call 23; refine (pless_any _ _ _ _ _).mono ?_; rintro e W2 ⟨rfl, b2⟩; rw [hp])
          have hN3 := hN2'.keep b2
          have hE3 := hE2'.keep b2
          have hX3 := hX2.keep b2
          have g1 : W2.cell? ⟨w1.heap.size, 1, none⟩ = some (.int .i64 kb) := hX3.at rfl
          have g2 : W2.cell? ⟨w1.heap.size, 2, none⟩ = some (.int .i64 kc) := hX3.at rfl
          clear hE2 y0 y1 y2 x0 x1 hN2' hE2' hX2 hw2
          obtain ⟨A3, hE3', hX3', hw3⟩ := blk1 W2 #[.int .i64 kb, .int .i64 kc] 24
          have hER : ER E2 A3 (.slice (some ⟨W2.heap.size, 0, none⟩) 1 1) [(kb, kc)] := EO.er (e := 24) (base := W2.heap.size) (eo_of (n := 1) (own_blkE (xs := E2.fl [(kb, kc)]) hX3' (Nat.le_refl _) rfl (by unfold maxLen; omega)))
          have hE4 := hE3.keep hw3
          have hN4 := hN3.keep hw3
          have hwW : Below A.heap.size A A3 := hN4.bl
          clear hE3 hN3 hX3 hX3' hw3
          go_wp2_with (at_builtin; refine app_e (E := E2) A rfl rfl Tryz.underlying60 infoPl2 rfl rfl hE4 rfl hER (by rw [hN2]; show nn + 1 ≤ _; omega) (by rw [hN2]; show (nn + 1) * 16 ≤ _; omega) hwW ?_; intro v5 W5 hE5 hw5 hg5; go_frame)
          have hN5 : Aw A W5 ⟨b, m, gf, cf, gb, cb, vr⟩ S D0 A.heap.size (got ++ [(ka, kb, kc)]) (rest.erase (ka, kb, kc)) cnt1 := by
            refine ⟨?_, hN4.pm, hw5, hN4.nr⟩
            obtain ⟨left', ⟨es, clock, since, seen, c0, h1, h2, h3, h4, h5, h6⟩, hl'⟩ := hN4.rg
            have l1 : m < A3.heap.size := (Array.getElem?_eq_some_iff.1 h1).1
            have l2 : A.heap.size < A3.heap.size := (Array.getElem?_eq_some_iff.1 h5).1
            have n1 : ∀ x o, A3.heap[x]? = some o → (∀ cur fr, o ≠ .cells cur 24 fr) → some x ≠ (Value.slice qx nn cx).ownBlock := fun x o hx ho e => by
              obtain ⟨cur, fr, e3⟩ := own_kindR hE4 e.symm
              rw [hx] at e3
              cases e3
              exact ho _ _ rfl
            exact ⟨left', ⟨es, clock, since, seen, c0, (hg5.block _ l1 (n1 _ _ h1 (fun _ _ h => by cases h))).trans h1, h2, h3, h4, (hg5.block _ l2 (n1 _ _ h5 (fun _ _ h => by cases h))).trans h5, h6⟩, hl'⟩
          obtain ⟨left3, hr3, -⟩ := hN5.rg
          go_roundw
          case rel => exact ⟨_, _, _, hN5, by rw [HPL'.out]; exact hE5⟩
          case measure => rw [hr3.left_eq, hleft]; exact hlt'.out _ (Nat.le_refl _)
      · have hl1 : (ka == lane) = false := by simp [hla]
        have HS : Hid (selK lane (t0, t1) (ka, kb, kc) = false) := by show _ = _; unfold selK; dsimp only; rw [decide_eq_false hla, Bool.false_and]
        have HPL' : Hid (plsK lane (t0, t1) (got ++ [(ka, kb, kc)]) = plsK lane (t0, t1) got) := by show _ = _; rw [HPL.out, if_neg (by rw [HS.out]; simp), List.append_nil]
        clear hla HS HPL
        obtain ⟨left3, hr3, -⟩ := hN2'.rg
        go_wp2_with fail
        go_roundw
        case rel => exact ⟨_, _, _, hN2', by rw [HPL'.out]; exact hE2'⟩
        case measure => rw [hr3.left_eq, hleft]; exact hlt'.out _ (Nat.le_refl _)
end Go.Proofs.YtclfdagenaaalaaGreat
namespace Go.Proofs.YtclfdagenaaalaaGreat
open Go.RowKit Go.Maps
set_option linter.unusedVariables false
set_option maxRecDepth 100000

theorem bains_one (q : Option Addr) (n cap : Nat) (fv : Value) (hn : n ≤ 1) (w : World) : Calls Tryz.prog 108 #[.slice q n cap, .int .i64 0, .int .i64 (n : Int), fv] w fun e w' => e = .returned (.tuple #[]) ∧ w' = w := by
  have h : n = 0 ∨ n = 1 := by omega
  rcases h with rfl | rfl
  all_goals
    go_enter Tryz.func108, Tryz.ntmps108
    go_wp2_with fail
    refine wp_loop_rounds 1 ?_
    rw [rounds_succ]
    go_wp2_with fail
    exact bodyPost_end (results_none rfl _ _ _) rfl ⟨rfl, rfl⟩
theorem bapdq_one (q : Option Addr) (n cap : Nat) (x : Int) (fv : Value) (hn : n ≤ 1) (w : World) : Calls Tryz.prog 99 #[.slice q n cap, .int .i64 0, .int .i64 (n : Int), .int .i64 x, fv] w fun e w' => e = .returned (.tuple #[]) ∧ w' = w := by
  have h : n = 0 ∨ n = 1 := by omega
  rcases h with rfl | rfl
  all_goals
    go_enter Tryz.func99, Tryz.ntmps99
    go_wp2_with fail
    refine wp_loop_rounds 1 ?_
    rw [rounds_succ]
    go_wp2_with (go_at_call 108; refine (bains_one _ _ _ _ (by omega) _).mono ?_; rintro e w ⟨rfl, rfl⟩)
    exact bodyPost_ret (results_none rfl _ _ _) rfl ⟨rfl, rfl⟩
theorem balen_one (n : Nat) (hn : n ≤ 1) (w : World) : Calls Tryz.prog 100 #[.int .u64 (n : Int)] w fun e w' => (∃ x : Int, e = .returned (.int .i64 x)) ∧ w' = w := by
  have h : n = 0 ∨ n = 1 := by omega
  rcases h with rfl | rfl
  all_goals
    go_enter Tryz.func100, Tryz.ntmps100
    go_wp2_with (go_in)
    go_ret
    exact ⟨⟨_, rfl⟩, rfl⟩
theorem basort_one (q : Option Addr) (n cap : Nat) (fv : Value) (hn : n ≤ 1) (w : World) : Calls Tryz.prog 87 #[.slice q n cap, fv] w fun e w' => e = .returned (.tuple #[]) ∧ w' = w := by
  go_enter Tryz.func87, Tryz.ntmps87
  go_wp2_with (first
    | (go_at_call 100; refine (balen_one _ hn _).mono ?_; rintro e w ⟨⟨x, rfl⟩, rfl⟩)
    | (go_at_call 99; refine (bapdq_one _ _ _ _ _ hn _).mono ?_; rintro e w ⟨rfl, rfl⟩))
  exact bodyPost_end (results_none rfl _ _ _) rfl ⟨rfl, rfl⟩
end Go.Proofs.YtclfdagenaaalaaGreat
namespace Go.Proofs.YtclfdagenaaalaaGreat
open Go.RowKit Go.Maps
set_option linter.unusedVariables false
set_option maxRecDepth 100000

theorem bafeed_nil (src fr la : Int) (q q2 : Option Addr) (n c n2 c2 : Nat) (w : World) : Calls Tryz.prog 35 #[.pointer none, .int .i64 src, .int .i64 fr, .int .i64 la, .slice q n c, .slice q2 n2 c2] w fun e w' => e = .returned (Err 2) ∧ w' = w := by
  go_enter Tryz.func35, Tryz.ntmps35
  go_wp2_with (go_at_call 56; refine (bhasS_nil _ _).mono ?_; rintro e W ⟨rfl, rfl⟩)
  go_ret
  exact ⟨rfl, rfl⟩
theorem babase_nil (n : Int) (w : World) : Calls Tryz.prog 38 #[.pointer none, .int .i64 n] w fun e w' => e = .returned (Plc 0 0) ∧ Below w.heap.size w w' := by
  obtain ⟨A, hE, hX, hw⟩ := blk1 w #[.int .i64 0, .int .i64 0] 24
  go_enter Tryz.func38, Tryz.ntmps38
  go_upto_region 2 with (go_at_call 44; refine (bhasL_nil _ _).mono ?_; rintro e W ⟨rfl, rfl⟩)
  clear hE
  go_wp2_with (refine st_blk rfl rfl hX rfl rfl info_plc rfl (by simp [Value.oneCell']) ?_; intro W2 hX2 C2)
  exact bodyPost_ret (results_cell_row rfl _ _ _ 24 _ (0, 0) _ rfl hX2 Tryz.underlying24 rfl info_plc) rfl ⟨rfl, ab_chg hw C2 (Nat.le_refl _)⟩
theorem is_one {W : World} {g : Nat} {x : Int} (h : Blk W g #[.int .i64 x] 3) : Is W (.slice (some ⟨g, 0, none⟩) 1 1) [x] := by
  refine ⟨some ⟨g, 0, none⟩, 1, g, 0, rfl, Nat.le_refl _, by omega, fun _ => rfl, fun _ => h.lt, fun j y hj => ?_⟩
  match j, hj with
  | 0, hj => simp at hj; subst hj; exact h.at rfl
  | j + 1, hj => simp at hj
theorem er_blk {α : Type} {E : En α} {e : TypeId} {W : World} {g n : Nat} {l : List α} {xs : Array Value} (h : Blk W g xs e) (hx : xs.toList = E.fl l) (hn : l.length = n) (hm : n ≤ 1000000) : ER E W (.slice (some ⟨g, 0, none⟩) n n) l := by
  subst hn
  refine ⟨some ⟨g, 0, none⟩, l.length, g, 0, rfl, Nat.le_refl _, by omega, fun _ => ⟨rfl, h.lt⟩, fun j u hu => ?_⟩
  rw [Nat.zero_add, h.cell, ← hu, ← hx]
  simp
theorem stay_young {α : Type} {E : En α} {K : Bkk} {w : World} {g n c o : Nat} {l : List α} (h : ER E w (.slice (some ⟨g, o, none⟩) n c) l) (hx : ∀ k, bkB K k → k < g) : Stay E K w (.slice (some ⟨g, o, none⟩) n c) l :=
  stay_out h (fun a n' c' e hk => by injection e with e1; injection e1 with e1; subst e1; exact absurd (hx _ hk) (Nat.lt_irrefl _))
def alO1 : Op5 := ⟨1, 1, 5, 1, 7⟩
def alO2 : Op5 := ⟨2, 2, 10, 0, 0⟩
def alS0 : Bsn := newBsn 1 [10] 1 9
theorem al_ks : (fdZ alS0 0 2 [lstP] [alO1, alO2]).ks = [(0, 0, 1)] := by kernel_rfl
theorem al_fl : (fdZ alS0 0 2 [lstP] [alO1, alO2]).fl = [⟨3, 10, true⟩] := by kernel_rfl
theorem al_ba : (fdZ alS0 0 2 [lstP] [alO1, alO2]).ba = [lstP] := by kernel_rfl
theorem al_res : (fdZ alS0 0 2 [lstP] [alO1, alO2]).res = [10] ∧ (fdZ alS0 0 2 [lstP] [alO1, alO2]).sh = 1 := ⟨by kernel_rfl, by kernel_rfl⟩
theorem al_e : tkE (fdR alS0 0 [lstP] [alO1, alO2]) = 0 := by kernel_rfl
theorem al_cv : (fdZ alS0 0 2 [lstP] [alO1, alO2]).cv (0, 0, 1) 0 = 1 := by kernel_rfl
theorem al_cls : clsP (fdZ alS0 0 2 [lstP] [alO1, alO2]) 0 = (1, -9223372036854775808) := by kernel_rfl
theorem al_lm : lmB (fdZ alS0 0 2 [lstP] [alO1, alO2]).fl = true := by kernel_rfl
theorem al_dr : (drpB (lifB (fdZ alS0 0 2 [lstP] [alO1, alO2]) 0 (1, -9223372036854775808))).ks = [] := by kernel_rfl
theorem al_new : newOK 1 [10] 1 9 = true := by decide
theorem al_form : fdF alS0 (0 : Nat) 1 2 [lstP] [alO1, alO2] := by
  refine ⟨by decide, by decide, by unfold wrap64; omega, ?_, ?_⟩
  · intro o ho
    simp at ho
    rcases ho with rfl | rfl <;> decide
  · simp [alO1, alO2]
theorem bld_pl (x y : Int) (w : World) : (Instr.buildSlice 60 1 #[(0, .agg #[.int .i64 x, .int .i64 y])]).run Tryz.prog w = .ok (.slice (some ⟨w.heap.size, 0, none⟩) 1 1) (w.alloc (.cells #[.int .i64 x, .int .i64 y] 24)) := bapl1 x y w
theorem bld_op2 (a b : Op5) (w : World) : (Instr.buildSlice 22 2 #[(0, opV a), (1, opV b)]).run Tryz.prog w = .ok (.slice (some ⟨w.heap.size, 0, none⟩) 2 2) (w.alloc (.cells #[.int .i64 a.s, .int .i64 a.k, .int .i64 a.t, .int .i64 a.y, .int .i64 a.v, .int .i64 b.s, .int .i64 b.k, .int .i64 b.t, .int .i64 b.y, .int .i64 b.v] 65)) := by kernel_rfl
end Go.Proofs.YtclfdagenaaalaaGreat
namespace Go.Proofs.YtclfdagenaaalaaGreat
open Go.RowKit
set_option linter.unusedVariables false
set_option maxRecDepth 100000

/-- A sample of a source, as its numbers. -/
def sxF (src : Int) (o : Op5) : Nat → Int := fun i => match i with | 0 => src | 1 => o.s | 2 => o.k | 3 => o.t | 4 => o.y | 5 => o.v | _ => 0
theorem one_sxF (src : Int) (o : Op5) : oneS (sxF src o) = oneF src o.s o.t o.v := rfl
/-- What was taken for a cell: the cell's name, the source, the sample. -/
abbrev Tok := Kyy × Int × Op5
def tkF (x : Tok) : Nat → Int := sxF x.2.1 x.2.2
def smK (T : List Tok) (k : Kyy) : List (Nat → Int) := (T.filter fun x => decide (x.1 = k)).map tkF
structure FitT (x : Tok) : Prop where
  k : KyOk x.1
  src : J64 x.2.1
  op : Fit5 x.2.2
theorem smK_append (T U : List Tok) (k : Kyy) : smK (T ++ U) k = smK T k ++ smK U k := by unfold smK; rw [List.filter_append, List.map_append]
theorem smK_len (T : List Tok) (k : Kyy) : (smK T k).length ≤ T.length := by unfold smK; rw [List.length_map]; exact List.length_filter_le _ _
theorem smK_nil {T : List Tok} {k : Kyy} (h : ∀ x ∈ T, x.1 ≠ k) : smK T k = [] := by
  unfold smK
  rw [List.filter_eq_nil_iff.2 (fun x hx => by simpa using h x hx)]
  rfl
theorem smK_ne {T : List Tok} {k : Kyy} {x : Tok} (hx : x ∈ T) (e : x.1 = k) : smK T k ≠ [] := by
  intro h
  have hm : tkF x ∈ smK T k := List.mem_map.2 ⟨x, List.mem_filter.2 ⟨hx, by simpa using e⟩, rfl⟩
  rw [h] at hm
  cases hm
theorem smK_fit {T : List Tok} {k : Kyy} (h : ∀ x ∈ T, FitT x) : ∀ s ∈ smK T k, Fit (s 0) ∧ Fit (s 1) ∧ Fit (s 3) ∧ Fit (s 5) := by
  intro s hs
  obtain ⟨x, hx, rfl⟩ := List.mem_map.1 hs
  have hf := h x (List.mem_filter.1 hx).1
  exact ⟨hf.src, hf.op.s, hf.op.t, hf.op.v⟩
theorem smK_filter {T : List Tok} {k : Kyy} {p : Kyy → Bool} : smK (T.filter fun x => p x.1) k = if p k = true then smK T k else [] := by
  unfold smK
  rw [List.filter_filter]
  by_cases c : p k = true
  · rw [if_pos c]
    congr 1
    apply List.filter_congr
    intro x _
    by_cases e : x.1 = k
    · simp [e, c]
    · simp [e]
  · rw [if_neg c, List.map_eq_nil_iff, List.filter_eq_nil_iff]
    intro x _ h
    simp only [Bool.and_eq_true, decide_eq_true_eq] at h
    obtain ⟨e, hp⟩ := h
    rw [e] at hp
    exact c hp
/-- A basin's cells are those of what was taken. -/
structure TkI (S : Bsn) (T : List Tok) : Prop where
  ks : ∀ k, k ∈ S.ks ↔ ∃ x ∈ T, x.1 = k
  cv : ∀ k, Eqv (S.cv k) (JL (smK T k))
  ft : ∀ x ∈ T, FitT x
theorem tki_new (n : Nat) (res : List Int) (sh mo : Int) : TkI (newBsn n res sh mo) [] := ⟨fun k => ⟨fun h => (by cases h), fun ⟨x, h, _⟩ => (by cases h)⟩, fun k => Eqv.refl _, fun x h => (by cases h)⟩
theorem tki_of {S S' : Bsn} {T : List Tok} (h : TkI S T) (h1 : S'.ks = S.ks) (h2 : S'.cv = S.cv) : TkI S' T := ⟨by rw [h1]; exact h.ks, by rw [h2]; exact h.cv, h.ft⟩
theorem eqv_join {a b c : Nat → Int} (h : Eqv a b) : Eqv (joinF [a, c]) (joinF [b, c]) := by
  rw [joinF2, joinF2, eqC_congr h (Eqv.refl zc)]
  split
  · exact Eqv.refl _
  · split
    · exact h
    · exact both_congr h (Eqv.refl _)
theorem tki_add {S : Bsn} {T : List Tok} (h : TkI S T) (k : Kyy) (src : Int) (o : Op5) (hl : T.length + 1 ≤ 2000) (hf : FitT (k, src, o)) : TkI (addB S (oneF src o.s o.t o.v) k) (T ++ [(k, src, o)]) := by
  refine ⟨fun j => ?_, fun j => ?_, fun x hx => ?_⟩
  · show j ∈ addK S.ks k ↔ _
    rw [mem_addK, h.ks]
    constructor
    · rintro (⟨x, hx, e⟩ | rfl)
      · exact ⟨x, by simp [hx], e⟩
      · exact ⟨(j, src, o), by simp, rfl⟩
    · rintro ⟨x, hx, e⟩
      rcases List.mem_append.1 hx with hx | hx
      · exact .inl ⟨x, hx, e⟩
      · rw [List.mem_singleton.1 hx] at e
        exact .inr e.symm
  · show Eqv (addC S.cv k (oneF src o.s o.t o.v) j) _
    unfold addC
    by_cases e : j = k
    · subst e
      rw [if_pos rfl, smK_append]
      have hone : smK [(j, src, o)] j = [sxF src o] := by simp [smK, tkF]
      rw [hone]
      have h1 := join_groups (smK T j) [sxF src o] (by have := smK_len T j; simp only [List.length_cons, List.length_nil]; omega) (fun s hs => (smK_fit h.ft s hs).2.2.2) (fun s hs => by rw [List.mem_singleton.1 hs]; exact hf.op.v)
      rw [JL_one, one_sxF] at h1
      exact (eqv_join (h.cv j)).trans h1
    · rw [if_neg e, smK_append]
      have hone : smK [(k, src, o)] j = [] := smK_nil (fun x hx => by rw [List.mem_singleton.1 hx]; exact fun e2 => e e2.symm)
      rw [hone, List.append_nil]
      exact h.cv j
  · rcases List.mem_append.1 hx with hx | hx
    · exact h.ft x hx
    · rw [List.mem_singleton.1 hx]; exact hf
def tokL (src : Int) (o : Op5) (l : List Kyy) : List Tok := l.map fun k => (k, src, o)
theorem tki_fold (src : Int) (o : Op5) (hs : J64 src) (ho : Fit5 o) : ∀ (l : List Kyy) (S : Bsn) (T : List Tok), TkI S T → (∀ k ∈ l, KyOk k) → T.length + l.length ≤ 2000 → TkI (l.foldl (fun U k => addB U (oneF src o.s o.t o.v) k) S) (T ++ tokL src o l)
  | [], S, T, h, _, _ => by simpa [tokL] using h
  | k :: l, S, T, h, hk, hl => by
    rw [List.length_cons] at hl
    rw [List.foldl_cons]
    have := tki_fold src o hs ho l _ _ (tki_add h k src o (by omega) ⟨hk k (by simp), hs, ho⟩) (fun j hj => hk j (by simp [hj])) (by rw [List.length_append, List.length_singleton]; omega)
    rw [show T ++ tokL src o (k :: l) = T ++ [(k, src, o)] ++ tokL src o l by simp [tokL]]
    exact this
theorem tki_pou {S : Bsn} {T : List Tok} (h : TkI S T) (hok : Okb S) (src : Int) (o : Op5) (hs : J64 src) (ho : Fit5 o) (hl : T.length + (idsB S o).length ≤ 2000) : TkI (pouB S src o) (T ++ tokL src o (idsB S o)) :=
  tki_fold src o hs ho _ _ _ h (fun k hk => (idsB_mem hok ho hk).1) hl
theorem tki_drp {S : Bsn} {T : List Tok} (h : TkI S T) : TkI (drpB S) (T.filter fun x => !pasB S.ba x.1) := by
  refine ⟨fun k => ?_, fun k => ?_, fun x hx => h.ft x (List.mem_filter.1 hx).1⟩
  · show k ∈ S.ks.filter (fun k => !pasB S.ba k) ↔ _
    rw [List.mem_filter, h.ks]
    constructor
    · rintro ⟨⟨x, hx, e⟩, hp⟩
      exact ⟨x, List.mem_filter.2 ⟨hx, by rw [e]; exact hp⟩, e⟩
    · rintro ⟨x, hx, e⟩
      obtain ⟨hx, hp⟩ := List.mem_filter.1 hx
      exact ⟨⟨x, hx, e⟩, by rw [← e]; exact hp⟩
  · show Eqv (kepC (S.ks.filter fun k => !pasB S.ba k) S.cv k) _
    rw [smK_filter (p := fun k => !pasB S.ba k)]
    unfold kepC
    by_cases c : (!pasB S.ba k) = true
    · rw [if_pos c]
      by_cases hk : k ∈ S.ks
      · rw [if_pos (List.mem_filter.2 ⟨hk, c⟩)]
        exact h.cv k
      · rw [if_neg (fun e => hk (List.mem_filter.1 e).1), smK_nil (fun x hx e => hk ((h.ks k).2 ⟨x, hx, e⟩))]
        exact Eqv.refl _
    · rw [if_neg c, if_neg (show ¬ k ∈ List.filter (fun k => !pasB S.ba k) S.ks from fun e => c (List.mem_filter.1 e).2)]
      exact Eqv.refl _
/-! ### In whatever order -/
theorem JL_cons (s : Nat → Int) (m : List (Nat → Int)) (h : m ≠ []) : Eqv (JL (s :: m)) (bothF (oneS s) (JL m)) := by
  have := JL_append [s] m (by simp) h
  rwa [JL_one] at this
theorem JL_perm {m k : List (Nat → Int)} (h : m.Perm k) : Eqv (JL m) (JL k) := by
  induction h with
  | nil => exact Eqv.refl _
  | cons x h ih =>
    rename_i l1 l2
    by_cases e : l1 = []
    · subst e
      rw [List.nil_perm.1 h]
      exact Eqv.refl _
    · have e2 : l2 ≠ [] := fun e2 => e (by rw [e2] at h; exact List.perm_nil.1 h)
      exact ((JL_cons x l1 e).trans (both_congr (Eqv.refl _) ih)).trans (JL_cons x l2 e2).symm
  | swap x y l =>
    by_cases e : l = []
    · subst e
      have h1 := JL_cons y [x] (by simp)
      have h2 := JL_cons x [y] (by simp)
      rw [JL_one] at h1 h2
      exact (h1.trans (both_comm _ _)).trans h2.symm
    · have h1 := (JL_cons y (x :: l) (by simp)).trans (both_congr (Eqv.refl _) (JL_cons x l e))
      have h2 := (JL_cons x (y :: l) (by simp)).trans (both_congr (Eqv.refl _) (JL_cons y l e))
      refine (h1.trans ?_).trans h2.symm
      refine (both_assoc (oneS y) (oneS x) (JL l)).symm.trans ?_
      exact (both_congr (both_comm _ _) (Eqv.refl _)).trans (both_assoc _ _ _)
  | trans _ _ ih1 ih2 => exact ih1.trans ih2
theorem smK_perm {T U : List Tok} (h : T.Perm U) (k : Kyy) : (smK T k).Perm (smK U k) := (h.filter _).map _
/-- Two basins that took the same, in whatever order. -/
theorem tki_same {S S' : Bsn} {T U : List Tok} (h : TkI S T) (h' : TkI S' U) (hp : T.Perm U) : (∀ k, k ∈ S.ks ↔ k ∈ S'.ks) ∧ ∀ k, Eqv (S.cv k) (S'.cv k) := by
  refine ⟨fun k => ?_, fun k => ((h.cv k).trans (JL_perm (smK_perm hp k))).trans (h'.cv k).symm⟩
  rw [h.ks, h'.ks]
  exact ⟨fun ⟨x, hx, e⟩ => ⟨x, hp.mem_iff.1 hx, e⟩, fun ⟨x, hx, e⟩ => ⟨x, hp.mem_iff.2 hx, e⟩⟩
end Go.Proofs.YtclfdagenaaalaaGreat
namespace Go.Proofs.YtclfdagenaaalaaGreat
open Go.RowKit
set_option linter.unusedVariables false
set_option maxRecDepth 100000

theorem drp_np {S : Bsn} (h : npB S) (hz : ∀ k, k ∉ S.ks → S.cv k = zc) : drpB S = S := by
  have h1 : (S.ks.filter fun k => !pasB S.ba k) = S.ks := List.filter_eq_self.2 fun k hk => by rw [h k hk]; rfl
  have h2 : kepC S.ks S.cv = S.cv := by
    funext k
    unfold kepC
    by_cases c : k ∈ S.ks
    · rw [if_pos c]
    · rw [if_neg c, hz k c]
  unfold drpB
  rw [h1, h2]
theorem pl_lst {p : Int × Int} (h : J64 p.1 ∧ J64 p.2) : pl p.1 p.2 lstP.1 lstP.2 = false := by
  unfold J64 at h
  unfold pl lstP
  apply decide_eq_false
  dsimp only
  omega
theorem mxP_lst {p : Int × Int} (h : J64 p.1 ∧ J64 p.2) : mxP p lstP = p := mxP_no (pl_lst h)
theorem zip_lst : ∀ (l c : List (Int × Int)), (∀ p ∈ l, J64 p.1 ∧ J64 p.2) → (∀ p ∈ c, p = lstP) → c.length = l.length → List.zipWith mxP l c = l
  | [], c, _, _, _ => by simp
  | p :: l, [], _, _, h => by simp at h
  | p :: l, q :: c, h1, h2, h3 => by
    rw [List.zipWith_cons_cons, h2 q (by simp), mxP_lst (h1 p (by simp)), zip_lst l c (fun x hx => h1 x (by simp [hx])) (fun x hx => h2 x (by simp [hx])) (by simpa using h3)]
theorem cut_lst {S : Bsn} (hok : Okb S) {cut : List (Int × Int)} (hl : cut.length = S.ba.length) (hc : ∀ p ∈ cut, p = lstP) : cutB S cut = S := by
  unfold cutB
  rw [zip_lst S.ba cut hok.bf hc hl]
/-- Fed with least cuts, nothing is dropped. -/
theorem fdR_lst {S : Bsn} (hok : Okb S) (hn : npB S) {cut : List (Int × Int)} (hl : cut.length = S.ba.length) (hc : ∀ p ∈ cut, p = lstP) (i : Nat) (ops : List Op5) : fdR S i cut ops = takB S i ops := by
  unfold fdR
  rw [cut_lst hok hl hc, drp_np hn hok.cz]
/-- All bases are least. -/
def allL (S : Bsn) : Prop := ∀ p ∈ S.ba, p = lstP
theorem allL_new (n : Nat) (res : List Int) (sh mo : Int) : allL (newBsn n res sh mo) := fun p hp => (List.mem_replicate.1 hp).2
theorem pas_lst {S : Bsn} (h : allL S) {k : Kyy} (hk : KyOk k) : pasB S.ba k = false := by
  unfold pasB
  cases hc : S.ba[k.1.toNat]? with
  | none => rfl
  | some c =>
    have := h c (List.mem_of_getElem? hc)
    subst this
    exact pl_lst hk.2
theorem np_lst {S : Bsn} (h : allL S) (hok : Okb S) : npB S := fun k hk => pas_lst h (hok.kk k hk).1
theorem ids_lst {S : Bsn} (h : allL S) (hok : Okb S) {o : Op5} (ho : Fit5 o) : idsB S o = idL o.t o.y S.sh S.res := by
  unfold idsB
  exact List.filter_eq_self.2 fun k hk => by rw [pas_lst h (ids_mem hok ho hk).1]; rfl
/-- What samples bring, where nothing is ahead of the bases. -/
def takQ (i : Nat) (sh : Int) (res : List Int) (ops : List Op5) : List Tok := (ops.filter fun o => decide (o.k ≠ 2)).flatMap fun o => tokL (i : Int) o (idL o.t o.y sh res)
theorem takQ_mark {i : Nat} {sh : Int} {res : List Int} {o : Op5} (l : List Op5) (h : o.k = 2) : takQ i sh res (o :: l) = takQ i sh res l := by
  unfold takQ
  rw [List.filter_cons, if_neg (by simp [h])]
theorem takQ_samp {i : Nat} {sh : Int} {res : List Int} {o : Op5} (l : List Op5) (h : o.k ≠ 2) : takQ i sh res (o :: l) = tokL (i : Int) o (idL o.t o.y sh res) ++ takQ i sh res l := by
  unfold takQ
  rw [List.filter_cons, if_pos (by simp [h]), List.flatMap_cons]
theorem takQ_append (i : Nat) (sh : Int) (res : List Int) (a b : List Op5) : takQ i sh res (a ++ b) = takQ i sh res a ++ takQ i sh res b := by
  unfold takQ
  rw [List.filter_append, List.flatMap_append]
theorem takQ_len (i : Nat) (sh : Int) (res : List Int) : ∀ (ops : List Op5), (takQ i sh res ops).length ≤ ops.length * res.length
  | [] => by simp [takQ]
  | o :: l => by
    have ih := takQ_len i sh res l
    rw [List.length_cons, Nat.add_mul, Nat.one_mul]
    by_cases h : o.k = 2
    · rw [takQ_mark l h]; omega
    · rw [takQ_samp l h, List.length_append, show (tokL (i : Int) o (idL o.t o.y sh res)).length = res.length by unfold tokL; rw [List.length_map, idL_len]]
      omega
structure LstI (S : Bsn) (T : List Tok) : Prop where
  ok : Okb S
  al : allL S
  tk : TkI S T
  few : S.ks.length ≤ T.length
theorem lst_new {n : Nat} {res : List Int} {sh mo : Int} (h : newOK (n : Int) res sh mo = true) (hr : ∀ r ∈ res, r ≤ 9223372036854775807) : LstI (newBsn n res sh mo) [] := ⟨okb_new h hr, allL_new _ _ _ _, tki_new _ _ _ _, Nat.le_refl _⟩
theorem LstI.np {S : Bsn} {T : List Tok} (h : LstI S T) : npB S := np_lst h.al h.ok
theorem LstI.pnc {S : Bsn} {T : List Tok} (h : LstI S T) (i : Nat) {t : Int} (ht : J64 t) : LstI (pncB S i t) T := by
  obtain ⟨h1, h2, h3, h4, h5, h6⟩ := pnc_same S i t
  exact ⟨okb_pnc h.ok ht, fun p hp => h.al p (by rw [← h4]; exact hp), tki_of h.tk h5 rfl, by rw [h5]; exact h.few⟩
theorem LstI.nxt {S : Bsn} {T : List Tok} (h : LstI S T) (i : Nat) {n : Int} (ht : J64 n) : LstI (nxtB S i n) T := by
  obtain ⟨h1, h2, h3, h4, h5, h6⟩ := nxt_same S i n
  exact ⟨okb_nxt h.ok ht, fun p hp => h.al p (by rw [← h4]; exact hp), tki_of h.tk h5 rfl, by rw [h5]; exact h.few⟩
theorem LstI.roo {S : Bsn} {T : List Tok} (h : LstI S T) (o : Op5) (hr : ((T.length + S.res.length : Nat) : Int) ≤ S.mo) : rooB S o = true := by
  unfold rooB
  apply decide_eq_true
  have h1 := misB_le S (idsB S o)
  have h2 := idsB_len S o
  have h3 := h.few
  omega
theorem LstI.pou {S : Bsn} {T : List Tok} (h : LstI S T) (src : Int) {o : Op5} (hs : J64 src) (ho : Fit5 o) (hr : ((T.length + S.res.length : Nat) : Int) ≤ S.mo) : LstI (pouB S src o) (T ++ tokL src o (idL o.t o.y S.sh S.res)) := by
  obtain ⟨h1, h2, h3, h4, h5⟩ := pou_same S src o
  have hi := ids_lst h.al h.ok ho
  have hm := h.ok.m1
  have hl : (idsB S o).length = S.res.length := by rw [hi, idL_len]
  have ht := tki_pou h.tk h.ok src o hs ho (by omega)
  rw [hi] at ht
  refine ⟨okb_pou h.ok ho hs (h.roo o hr), fun p hp => h.al p (by rw [← h5]; exact hp), ht, ?_⟩
  have h6 := fold_len (oneF src o.s o.t o.v) (idsB S o) S (idsB_nodup h.ok o)
  have h7 := misB_le S (idsB S o)
  have h8 := h.few
  have h9 : (pouB S src o).ks.length = S.ks.length + misB S (idsB S o) := h6
  rw [h9, List.length_append, show (tokL src o (idL o.t o.y S.sh S.res)).length = S.res.length by unfold tokL; rw [List.length_map, idL_len]]
  omega
/-- A row of operations is taken whole. -/
theorem tak_lst (i : Nat) (hs : J64 (i : Int)) : ∀ (ops : List Op5) (S : Bsn) (T : List Tok), LstI S T → (∀ o ∈ ops, Fit5 o) → ((T.length + ops.length * S.res.length : Nat) : Int) ≤ S.mo →
    (takB S i ops).2 = none ∧ LstI (takB S i ops).1 (T ++ takQ i S.sh S.res ops) ∧ StK S (takB S i ops).1
  | [], S, T, h, _, _ => ⟨rfl, by show LstI S (T ++ takQ i S.sh S.res []); rw [show takQ i S.sh S.res [] = [] from rfl, List.append_nil]; exact h, StK.refl S⟩
  | o :: l, S, T, h, hf, hl => by
    rw [List.length_cons, Nat.add_mul, Nat.one_mul] at hl
    have ho := hf o (by simp)
    unfold takB
    rw [List.foldl_cons]
    by_cases hk : o.k = 2
    · rw [stp_mark hk, takQ_mark l hk]
      have hS := stk_pnc S i o.t
      have := tak_lst i hs l (pncB S i o.t) T (h.pnc i ho.t) (fun x hx => hf x (by simp [hx])) (by rw [hS.res, hS.mo]; omega)
      rw [hS.sh, hS.res] at this
      exact ⟨this.1, this.2.1, hS.trans this.2.2⟩
    · have hr : ((T.length + S.res.length : Nat) : Int) ≤ S.mo := by omega
      rw [stp_pour hk (h.roo o hr), takQ_samp l hk]
      have hS := stk_pou S (i : Int) o
      have h2 := h.pou (i : Int) hs ho hr
      have := tak_lst i hs l (pouB S (i : Int) o) _ h2 (fun x hx => hf x (by simp [hx])) (by
        rw [hS.res, hS.mo, List.length_append, show (tokL (i : Int) o (idL o.t o.y S.sh S.res)).length = S.res.length by unfold tokL; rw [List.length_map, idL_len]]
        omega)
      rw [hS.sh, hS.res, List.append_assoc] at this
      exact ⟨this.1, this.2.1, hS.trans this.2.2⟩
/-- What Feed leaves, fed with least cuts. -/
theorem fd_lst {S : Bsn} {T : List Tok} (h : LstI S T) {i : Nat} (hs : J64 (i : Int)) {la : Int} {cut : List (Int × Int)} {ops : List Op5} (hl : cut.length = S.ba.length) (hc : ∀ p ∈ cut, p = lstP) (hf : ∀ o ∈ ops, Fit5 o) (hr : ((T.length + ops.length * S.res.length : Nat) : Int) ≤ S.mo) :
    tkE (fdR S i cut ops) = 0 ∧ fdZ S i la cut ops = nxtB (takB S i ops).1 i (wrap64 (la + 1)) ∧ LstI (fdZ S i la cut ops) (T ++ takQ i S.sh S.res ops) ∧ StK S (fdZ S i la cut ops) := by
  have h1 := fdR_lst h.ok h.np hl hc i ops
  obtain ⟨h2, h3, h4⟩ := tak_lst i hs ops S T h hf hr
  have hz : fdZ S i la cut ops = nxtB (takB S i ops).1 i (wrap64 (la + 1)) := by
    unfold fdZ tkN
    rw [h1, h2]
  refine ⟨by unfold tkE; rw [h1, h2], hz, ?_, ?_⟩
  · rw [hz]; exact h3.nxt i (by unfold J64 wrap64; omega)
  · rw [hz]; exact h4.trans (stk_nxt _ _ _)
end Go.Proofs.YtclfdagenaaalaaGreat
