/-
  slices.Repeat of one flow; basin.New.
-/
import Derived.Test.YtoeilckeebojmaaPk37
import Derived.Test.YtoeilckeebojmaaPk28
import Derived.Test.YtoeilckeebojmaaPk25
import Derived.Test.YtoeilckeebojmaaPk29
import Derived.Test.YtoeilckeebojmaaPk24
namespace Go.Proofs.Ytoeilckeebojmaa
open Go.RowKit Go.Maps
set_option linter.unusedVariables false
set_option maxRecDepth 100000

def zFl : Flw := ⟨0, 0, false⟩
theorem eltFl : Try.prog.underlying 86 = some (.slice (Try.prog.elem 86)) := by kernel_rfl
theorem sizeFlw (w : World) : (sizeOf (Try.prog.elem 86)).run Try.prog w = .ok 3 w := by kernel_rfl
theorem infoFl3 : (Try.prog.info? 89).map (fun i => (i.zero, i.size, i.bytes)) = some (some (.agg #[.int .i64 0, .int .i64 0, .bool false]), 3, 24) := by kernel_rfl
theorem sizeFl3 : (Try.prog.info? 89).map (·.size) = some 3 := by kernel_rfl
theorem e3f_splice (p : Flw) (n m c : Nat) (h : n + m ≤ c) (z : Flw) : (E3f.fl (List.replicate n p ++ List.replicate (c - n) z)).take (n * 3) ++ E3f.fl (List.replicate m p) ++ (E3f.fl (List.replicate n p ++ List.replicate (c - n) z)).drop (n * 3 + m * 3) = E3f.fl (List.replicate (n + m) p ++ List.replicate (c - (n + m)) z) := by
  have h1 := E3f.fl_take (List.replicate n p ++ List.replicate (c - n) z) n
  have h2 := E3f.fl_drop (List.replicate n p ++ List.replicate (c - n) z) (n + m)
  rw [show (n + m) * E3f.k = n * 3 + m * 3 from Nat.add_mul n m 3] at h2
  rw [show n * E3f.k = n * 3 from rfl] at h1
  rw [h1, h2, ← E3f.fl_append, ← E3f.fl_append]
  congr 1
  have e : List.replicate (n + m) p = List.replicate n p ++ List.replicate m p := by simp
  rw [List.take_left' (by simp), e]
  congr 1
  rw [List.drop_append, List.drop_of_length_le (by simp), List.nil_append, List.length_replicate, List.drop_replicate]
  congr 1
  omega
set_option maxHeartbeats 2000000 in
theorem barep_any (p : Flw) (c : Nat) (g0 : Nat) (w : World) (h0 : 1 ≤ c) (hc : c ≤ 4) (hB : Blk w g0 (flA p) 89) :
    Calls Try.prog 30 #[.slice (some ⟨g0, 0, none⟩) 1 1, .int .i64 (c : Int)] w fun e w' => ∃ v, e = .returned v ∧ EO E3f 89 w' w.heap.size v (List.replicate c p) ∧ Below w.heap.size w w' := by
  have hci : (0 : Int) ≤ (c : Int) := by omega
  go_enter Try.func30, Try.ntmps30
  go_upto_region 6 with (go_at_call 49; refine (smul_any c (by omega) _).mono ?_; rintro e w ⟨rfl, rfl⟩)
  go_upto_region 7 with (refine mk_e (E := E3f) rfl zFl rfl Try.underlying86 infoFl3 rfl rfl rfl rfl (by omega) (by omega) ?_; intro W1 hB1 b1)
  have hs0 := hB.keep b1
  have hlen1 : (E3f.fl (List.replicate c zFl)).length = c * 3 := by rw [E3f.fl_len, List.length_replicate]; rfl
  have hr1 := fun ty => run_copy_rowK (P := Try.prog) W1 86 86 ty 89 3 w.heap.size 0 c c ⟨g0, 0, none⟩ 1 1 _ 89 (flA p).toList Try.underlying86 sizeFl3 hB1 (by rw [show Nat.min 1 c = 1 from Nat.min_eq_left h0]; rfl) (by
    intro j v hj
    rw [Addr.add_mid, Nat.zero_add, hs0.cell]; simpa using hj) (by simp [hlen1, flA]; omega) (by simp [flA, Value.oneCell'])
  have HE1 : Hid (E3f.fl (List.replicate c zFl) = E3f.fl (List.replicate c zFl)) := rfl
  have hx1 : ((E3f.fl (List.replicate c zFl)).toArray.toList.take 0 ++ (flA p).toList ++ (E3f.fl (List.replicate c zFl)).toArray.toList.drop (0 + (flA p).toList.length)) = E3f.fl (List.replicate 1 p ++ List.replicate (c - 1) zFl) := by
    have := e3f_splice p 0 1 c (by omega) zFl
    simpa [En.fl_one1, E3f, flA] using this
  rw [hx1, show Nat.min 1 c = 1 from Nat.min_eq_left h0] at hr1
  have hB2 : Blk (W1.setRow w.heap.size (E3f.fl (List.replicate 1 p ++ List.replicate (c - 1) zFl)).toArray) w.heap.size (E3f.fl (List.replicate 1 p ++ List.replicate (c - 1) zFl)).toArray 89 := blk_setRow hB1 _
  have C2 := chg_setRow W1 w.heap.size (E3f.fl (List.replicate 1 p ++ List.replicate (c - 1) zFl)).toArray
  clear hx1 HE1
  generalize W1.setRow w.heap.size (E3f.fl (List.replicate 1 p ++ List.replicate (c - 1) zFl)).toArray = W2 at *
  have b2 := ab_chg b1 C2 (Nat.le_refl _)
  go_upto_region 8 with (refine cp_l rfl rfl _ _ rfl rfl hr1 ?_)
  clear hr1 hB1 hs0 hB b1 C2 hlen1
  go_loopw [8] (fun n wr => ∃ k : Nat, 1 ≤ k ∧ k ≤ c ∧ n = .int .i64 (k : Int) ∧ Blk wr w.heap.size (E3f.fl (List.replicate k p ++ List.replicate (c - k) zFl)).toArray 89 ∧ Below w.heap.size w wr) (fun n _ => c - (intOf n).toNat)
  case atStart => exact ⟨1, Nat.le_refl _, h0, rfl, hB2, b2⟩
  case round =>
    clear hB2 b2
    obtain ⟨k, hk0, hk, rfl, hB, hb⟩ := hrel
    by_cases hkc : k = c
    · subst hkc
      rw [Nat.sub_self, List.replicate_zero, List.append_nil] at hB
      have HB : Hid (Blk wr w.heap.size (E3f.fl (List.replicate k p)).toArray 89) := hB
      clear hB
      go_wp2_with fail
      go_ret
      refine ⟨_, rfl, eo_of (n := k) (own_blkE HB.out (Nat.le_refl _) (by rw [E3f.fl_len, List.length_replicate]) (by unfold maxLen; omega)), hb⟩
    · have hki : (k : Int) < (c : Int) := by omega
      obtain ⟨m, hm⟩ : ∃ m, m = Nat.min k (c - k) := ⟨_, rfl⟩
      have hm1 : 1 ≤ m := by rw [hm]; exact Nat.le_min.2 ⟨hk0, by omega⟩
      have hm2 : m ≤ k := by rw [hm]; exact Nat.min_le_left _ _
      have hm3 : m ≤ c - k := by rw [hm]; exact Nat.min_le_right _ _
      obtain ⟨o', es, ho'⟩ := sliced_some w.heap.size 0 k c c 3
      have ho2 := ho' (by omega)
      rw [Nat.zero_add] at ho2
      subst ho2
      have hlen : (E3f.fl (List.replicate k p ++ List.replicate (c - k) zFl)).length = c * 3 := by
        rw [E3f.fl_len, List.length_append, List.length_replicate, List.length_replicate, show k + (c - k) = c by omega]; rfl
      have hr := fun (V : World) (hV : Blk V w.heap.size (E3f.fl (List.replicate k p ++ List.replicate (c - k) zFl)).toArray 89) ty => run_copy_rowK (P := Try.prog) V 86 86 ty 89 3 w.heap.size (k * 3) (c - k) (c - k) ⟨w.heap.size, 0, none⟩ k c _ 89 (E3f.fl (List.replicate m p)) Try.underlying86 sizeFl3 hV (by rw [← hm, E3f.fl_len, List.length_replicate]; rfl) (by
        intro j v hj
        have hj2 := (List.getElem?_eq_some_iff.1 hj).1
        have e : E3f.fl (List.replicate k p ++ List.replicate (c - k) zFl) = E3f.fl (List.replicate m p) ++ E3f.fl (List.replicate (k - m) p ++ List.replicate (c - k) zFl) := by
          rw [← E3f.fl_append, ← List.append_assoc]
          congr 2
          rw [List.replicate_append_replicate]; congr 1; omega
        rw [Addr.add_mid, Nat.zero_add, hV.cell, e]
        simp only [List.getElem?_toArray]
        rw [List.getElem?_append_left hj2]
        exact hj) (by simp only [List.size_toArray]; rw [hlen, E3f.fl_len, List.length_replicate]; show k * 3 + m * 3 ≤ c * 3; omega) (E3f.fl_cell _)
      rw [← hm] at hr
      have hsp := e3f_splice p k m c (by omega) zFl
      simp only [E3f.fl_len, List.length_replicate, show E3f.k = 3 from rfl] at hr
      rw [hsp] at hr
      clear hsp hlen hm ho'
      go_upto_region 9 with fail
      refine wp_region_held_drew (S := fun _ => True) (by kernel_rfl) trivial (fun hHeld => ?_)
      have hBV : Blk wr.drew w.heap.size (E3f.fl (List.replicate k p ++ List.replicate (c - k) zFl)).toArray 89 := hB
      have hbV : Below w.heap.size w wr.drew := ab_drew hb
      generalize wr.drew = V at *
      refine takeH (i := 0) (some 38) rfl rfl (by kernel_rfl) (by kernel_rfl) (by kernel_rfl) (fun _ _ _ h => h) (by rfl) (fun w hSw => by (try dsimp only at hSw); go_simp; try rfl) hHeld ?_
      go_frame
      refine takeH (i := 1) (some 39) rfl rfl (by kernel_rfl) (by kernel_rfl) (by kernel_rfl) (fun _ _ _ h => h) (by rfl) (fun w hSw => by (try dsimp only at hSw); go_simp; try rfl) hHeld ?_
      go_frame
      refine takeH (i := 2) (some 40) rfl rfl (by kernel_rfl) (by kernel_rfl) (by kernel_rfl) (fun _ _ _ h => h) (by rfl) (fun w hSw => by (try dsimp only at hSw); go_simp; try rfl) hHeld ?_
      go_frame
      refine takeH (i := 3) (some 41) rfl rfl (by kernel_rfl) (by kernel_rfl) (by kernel_rfl) (fun _ _ _ h => h) (by rfl) (fun w hSw => by (try dsimp only at hSw); (exact slo_l (x := .tmp 39) (y := .tmp 40) rfl rfl rfl rfl eltFl (sizeFlw _) (by omega) (by omega) es)) hHeld ?_
      go_frame
      refine takeH (i := 4) (some 42) rfl rfl (by kernel_rfl) (by kernel_rfl) (by kernel_rfl) (fun _ _ _ h => h) (by rfl) (fun w hSw => by (try dsimp only at hSw); go_simp; try rfl) hHeld ?_
      go_frame
      refine takeH (i := 5) (some 43) rfl rfl (by kernel_rfl) (by kernel_rfl) (by kernel_rfl) (fun _ _ _ h => h) (by rfl) (fun w hSw => by (try dsimp only at hSw); go_simp; try rfl) hHeld ?_
      go_frame
      refine takeH (i := 6) (some 44) rfl rfl (by kernel_rfl) (by kernel_rfl) (by kernel_rfl) (fun _ _ _ h => h) (by rfl) (fun w hSw => by (try dsimp only at hSw); (exact slo_h (x := .tmp 42) (z := .tmp 43) rfl rfl rfl rfl eltFl (sizeFlw _) (by omega))) hHeld ?_
      go_frame
      refine wpAnyH_ready (rs := [7]) (by kernel_rfl) (by simp) (AllReadyH.cons rfl (fun K hK => ?_) AllReadyH.nil)
      rw [if_pos (by rfl)]
      refine cpW (some 45) rfl rfl _ _ rfl rfl (hr V hBV) ?_
      have hB2 : Blk (V.setRow w.heap.size (E3f.fl (List.replicate (k + m) p ++ List.replicate (c - (k + m)) zFl)).toArray) w.heap.size (E3f.fl (List.replicate (k + m) p ++ List.replicate (c - (k + m)) zFl)).toArray 89 := blk_setRow hBV _
      have b2 := ab_chg hbV (chg_setRow V w.heap.size (E3f.fl (List.replicate (k + m) p ++ List.replicate (c - (k + m)) zFl)).toArray) (Nat.le_refl _)
      refine hK.out _ _ trivial (fun hHeld => ?_)
      clear hK K hr hBV hbV
      generalize V.setRow w.heap.size (E3f.fl (List.replicate (k + m) p ++ List.replicate (c - (k + m)) zFl)).toArray = W2 at *
      have hadd1 : IntKind.i64.wrap ((k : Int) + (m : Int)) = (k : Int) + (m : Int) := by simp [IntKind.wrap, IntKind.signed, IntKind.bits] <;> omega
      go_frame
      refine takeH (i := 8) (some 46) rfl rfl (by kernel_rfl) (by kernel_rfl) (by kernel_rfl) (fun _ _ _ h => h) (by rfl) (fun w hSw => by (try dsimp only at hSw); go_simp; try rfl) hHeld ?_
      go_frame
      refine takeH (i := 9) (some 8) rfl rfl (by kernel_rfl) (by kernel_rfl) (by kernel_rfl) (fun _ _ _ h => h) (by rfl) (fun w hSw => by (try dsimp only at hSw); go_simp; try rfl) hHeld ?_
      go_frame
      refine wpAnyH_done (by kernel_rfl) ?_ _
      go_wp2_with fail
      exact ⟨⟨k + m, by omega, by omega, by rw [Int.natCast_add], hB2, b2⟩, by simp only [intOf]; omega⟩
theorem newOK_iff {n : Int} {res : List Int} {sh mo : Int} : newOK n res sh mo = true ↔ (1 ≤ n ∧ n ≤ 4) ∧ goodR res sh = true ∧ (1 ≤ mo ∧ mo ≤ 1024) := by
  unfold newOK
  simp only [Bool.and_eq_true, decide_eq_true_eq]
  constructor
  · rintro ⟨⟨a, b⟩, c⟩; exact ⟨a, b, c⟩
  · rintro ⟨a, b, c⟩; exact ⟨⟨a, b⟩, c⟩
theorem okb_new {n : Nat} {res : List Int} {sh mo : Int} (h : newOK (n : Int) res sh mo = true) (hr : ∀ r ∈ res, r ≤ 9223372036854775807) : Okb (newBsn n res sh mo) := by
  obtain ⟨a, b, c⟩ := newOK_iff.1 h
  obtain ⟨b1, b2, b3⟩ := goodR_iff.1 b
  refine ⟨b2.1, b2.2, fun r h => ⟨b1 r h, hr r h⟩, b3.1, b3.2, c.1, c.2, ?_, ?_, ?_, ?_, ?_, List.nodup_nil, ?_, fun k h => (by cases h), fun k => wf_zc, fun k _ => rfl⟩
  · show 1 ≤ (List.replicate n newFl).length; rw [List.length_replicate]; omega
  · show (List.replicate n newFl).length ≤ 4; rw [List.length_replicate]; omega
  · intro f hf
    have := List.eq_of_mem_replicate hf
    subst this
    unfold newFl J64; dsimp only; omega
  · show ((List.replicate (res.length * sh.toNat) lstP).length : Int) = (res.length : Int) * sh
    rw [List.length_replicate, Int.natCast_mul, Int.toNat_of_nonneg (by omega)]
  · intro p hp
    have := List.eq_of_mem_replicate hp
    subst this
    unfold lstP J64; dsimp only; omega
  · show ((0 : Nat) : Int) ≤ mo; omega
theorem banew_no (n : Int) (v : Value) (res : List Int) (sh mo : Int) (w : World) (hv : Is w v res) (h : newOK n res sh mo = false) :
    Calls Try.prog 9 #[.int .i64 n, v, .int .i64 sh, .int .i64 mo] w fun e w' => e = .returned (.tuple #[.pointer none, Err 2]) ∧ w' = w := by
  obtain ⟨q, cap, hf⟩ := hv.form
  have HG := bgood_any v res sh w hv
  rw [hf] at HG ⊢
  generalize res.length = k at *
  have HN : Hid (newOK n res sh mo = false) := h
  clear h hv hf
  cases a1 : wiB n 4
  · go_enter Try.func9, Try.ntmps9
    go_wp2_with (go_at_call 28; refine (bwithin_any _ _ _).mono ?_; rintro e w ⟨rfl, rfl⟩; rw [a1])
    go_ret2
    exact ⟨rfl, rfl⟩
  · cases a2 : goodR res sh
    · rw [a2] at HG
      go_enter Try.func9, Try.ntmps9
      go_wp2_with (first
        | (go_at_call 28; refine (bwithin_any _ _ _).mono ?_; rintro e w ⟨rfl, rfl⟩; rw [a1])
        | (go_at_call 29; refine HG.mono ?_; rintro e w ⟨rfl, rfl⟩))
      go_ret2
      exact ⟨rfl, rfl⟩
    · have a3 : wiB mo 1024 = false := by
        cases hh : wiB mo 1024
        · rfl
        · have h1 := HN.out
          have : newOK n res sh mo = true := newOK_iff.2 ⟨of_decide_eq_true a1, a2, of_decide_eq_true hh⟩
          rw [this] at h1; cases h1
      rw [a2] at HG
      go_enter Try.func9, Try.ntmps9
      go_wp2_with (first
        | (go_at_call 28; refine (bwithin_any _ _ _).mono ?_; rintro e w ⟨rfl, rfl⟩; first | rw [a1] | rw [a3])
        | (go_at_call 29; refine HG.mono ?_; rintro e w ⟨rfl, rfl⟩))
      go_ret2
      exact ⟨rfl, rfl⟩
theorem bsv_l {P : Program} {ops : Array Oper} {rest : List Oper} {o : Oper} {a : Act} {w : World} {Q : Exit → Act → World → Prop} (hw : Region.wanted o (yielded ops a.tmps) = true) {t : TypeId} {n : Nat} {parts : Array (Nat × Operand)} (ho : o.op = .buildSlice t n parts) {L : Array (Nat × Value)} (hl : parts.map (fun (i, x) => (i, a.eval x)) = L) {v : Value} {w' : World}
    (hr : (Instr.buildSlice t n L).run P w = .ok v w') (h : wpList P ops Q rest (a.put o.dst v) w') : wpList P ops Q (o :: rest) a w := by
  unfold wpList
  rw [if_pos hw]
  left
  unfold Oper.wp execOp
  simp only [ho, Sem.run_bind, hl, hr, Result.andThen_ok]
  exact h
theorem bfl1 (w : World) : (Instr.buildSlice 86 1 #[(0, .agg #[.int .i64 1, .int .i64 0, .bool false])]).run Try.prog w = .ok (.slice (some ⟨w.heap.size, 0, none⟩) 1 1) (w.alloc (.cells #[.int .i64 1, .int .i64 0, .bool false] 89)) := by kernel_rfl
theorem bapl1 (x y : Int) (w : World) : (Instr.buildSlice 36 1 #[(0, .agg #[.int .i64 x, .int .i64 y])]).run Try.prog w = .ok (.slice (some ⟨w.heap.size, 0, none⟩) 1 1) (w.alloc (.cells #[.int .i64 x, .int .i64 y] 38)) := by kernel_rfl
theorem built_fl : Try.prog.built 89 [(0, .int .i64 1)] = some #[.int .i64 1, .int .i64 0, .bool false] := by kernel_rfl
theorem built_bs (q : Option Addr) (k c : Nat) (sh mo : Int) (g1 n1 c1 g2 n2 c2 m : Nat) : Try.prog.built 93 [(0, .slice q k c), (1, .int .i64 sh), (2, .int .i64 mo), (3, .slice (some ⟨g1, 0, none⟩) n1 c1), (4, .slice (some ⟨g2, 0, none⟩) n2 c2), (5, .map (some m))] = some #[.slice q k c, .int .i64 sh, .int .i64 mo, .slice (some ⟨g1, 0, none⟩) n1 c1, .slice (some ⟨g2, 0, none⟩) n2 c2, .map (some m)] := by kernel_rfl
/-- What New answers, where all is in form. -/
def NewE (e : Ending) (W : World) (B : Nat) (S : Bsn) : Prop := ∃ K : Bkk, e = .returned (.tuple #[bptr K, .nilIface]) ∧ Bq W B K S
set_option maxHeartbeats 1000000 in
theorem banew_ok (n : Nat) (v : Value) (res : List Int) (sh mo : Int) (w : World) (hv : Is w v res) (hr : ∀ r ∈ res, r ≤ 9223372036854775807) (h : newOK (n : Int) res sh mo = true) :
    Calls Try.prog 9 #[.int .i64 (n : Int), v, .int .i64 sh, .int .i64 mo] w fun e w' => NewE e w' w.heap.size (newBsn n res sh mo) ∧ Below w.heap.size w w' := by
  obtain ⟨q, cap, hf⟩ := hv.form
  obtain ⟨h1, h2, h3⟩ := newOK_iff.1 h
  obtain ⟨b1, b2, b3⟩ := goodR_iff.1 h2
  have HG := bgood_any v res sh w hv
  have HO := okb_new h hr
  have a1 : wiB (n : Int) 4 = true := decide_eq_true h1
  have a3 : wiB mo 1024 = true := decide_eq_true h3
  obtain ⟨sn, hsn⟩ : ∃ sn : Nat, sh = (sn : Int) := ⟨sh.toNat, by omega⟩
  have hcl : res.length * sn ≤ 12 := by have := Nat.mul_le_mul b2.2 (show sn ≤ 4 by omega); omega
  have hcl1 : 1 ≤ res.length * sn := by have := Nat.mul_le_mul b2.1 (show 1 ≤ sn by omega); omega
  have HM : Hid ((res.length : Int) * sh = ((res.length * sn : Nat) : Int)) := by show _ = _; rw [hsn, Int.natCast_mul]
  have hmul := HM.out
  have HTn : Hid (res.length * sh.toNat = res.length * sn) := by show _ = _; rw [hsn, Int.toNat_natCast]
  have hn1 : 1 ≤ n := by omega
  have hn4 : n ≤ 4 := by omega
  have hk3 : res.length ≤ 3 := b2.2
  have HV := hv
  rw [h2] at HG
  rw [hf] at HG HV ⊢
  clear hv hf h1 h3 h b1 b2 b3 hr
  generalize hkr : res.length = k at *
  generalize hcc : k * sn = c at *
  have HKR : Hid (res.length = k) := hkr
  have HNB : Hid (newBsn n res sh mo = ⟨res, sh, mo, List.replicate n newFl, List.replicate c lstP, [], fun _ => zc⟩) := by
    show _ = _
    unfold newBsn
    rw [hkr, HTn.out]
  have HOK : Hid (Okb (newBsn n res sh mo)) := HO
  have hmm := @run_makeMap Try.prog
  clear hsn hcc hmul h2 hkr HO
  go_enter Try.func9, Try.ntmps9
  go_upto_region 3 with (first
    | (go_at_call 28; refine (bwithin_any _ _ _).mono ?_; rintro e w ⟨rfl, rfl⟩; first | rw [a1] | rw [a3])
    | (go_at_call 29; refine HG.mono ?_; rintro e w ⟨rfl, rfl⟩))
  refine wp_region_lit ?_
  refine valS rfl (.slice q k cap) rfl ?_
  refine app_i w rfl rfl (l := []) (m := res) rfl (World.ownsRow_nil _ _ _ _) rfl HV rfl (by have := HKR.out; omega) (Below.refl _ _) ?_
  intro v' W1 hown hnil b1 hg1 hat
  have hO := io_of hown
  obtain ⟨q1, cap1, rfl⟩ := hO.is.form
  have HO1 : Hid (Io W1 w.heap.size (.slice q1 k cap1) res) := by
    have : Io W1 w.heap.size (.slice q1 res.length cap1) res := hO
    rw [HKR.out] at this
    exact this
  clear hnil hg1 hat hown hO HG HV
  have hkr2 : ([] ++ res : List Int).length = k := HKR.out
  rw [hkr2]
  clear hkr2
  go_frame
  refine valS rfl (.int .i64 sh) rfl ?_
  go_frame
  refine valS rfl (.int .i64 mo) rfl ?_
  go_frame
  refine valS rfl _ (bd_run rfl built_fl (by simp only [List.map_toArray, List.map_cons, List.map_nil]; rfl) _) ?_
  go_frame
  refine bsv_l rfl rfl (by simp only [List.map_toArray, List.map_cons, List.map_nil]; rfl) (bfl1 _) ?_
  obtain ⟨W2, hE2, hX2, b2⟩ := blk1 W1 #[.int .i64 1, .int .i64 0, .bool false] 89
  rw [hE2]
  clear hE2
  go_frame
  go_wp2_with (first
    | (go_at_call 30; refine (barep_any newFl n _ _ hn1 hn4 hX2).mono ?_; rintro e W3 ⟨v3, rfl, hO3, b3⟩; obtain ⟨g3, cap3, rfl⟩ := EO.at0 hO3 (by rw [List.length_replicate]; omega); rw [List.length_replicate]; go_frame)
    | (go_at_call 32; refine (least_any _).mono ?_; rintro e W4 ⟨rfl, b4⟩; go_frame))
  have hwr : wrap64 ((k : Int) * sh) = (c : Int) := by rw [HM.out]; unfold wrap64; omega
  rw [hwr]
  clear hwr
  obtain ⟨W5, hE5, hX5, b5⟩ := blk1 W4 #[.int .i64 (-9223372036854775808), .int .i64 (-9223372036854775808)] 38
  rw [hE5]
  clear hE5
  refine (srepeat_any lstP c _ _ hcl1 hcl hX5).mono ?_
  rintro e W6 ⟨v6, rfl, hO6, b6⟩
  obtain ⟨g6, cap6, rfl⟩ := EO.at0 hO6 (by rw [List.length_replicate]; omega)
  rw [List.length_replicate]
  have b12 := ab_trans b1 b2
  have b13 := ab_trans b12 b3
  have b14 := ab_trans b13 b4
  have b15 := ab_trans b14 b5
  have b16 := ab_trans b15 b6
  have HIo : Hid (Io W6 w.heap.size (.slice q1 k cap1) res) := HO1.out.keep (ab_trans (ab_trans (ab_trans (ab_trans b2 b3) b4) b5) b6)
  have hR3 := (EO.rw hO3).1
  have hG3 := (EO.rw hO3).2
  have HR3 : Hid (Rw E3f 89 W6 g3 cap3 (List.replicate n newFl) ∧ w.heap.size ≤ g3) := ⟨hR3.keep (ab_trans (ab_trans b4 b5) b6), Nat.le_trans b12.size hG3⟩
  have HR6 : Hid (Rw E2 38 W6 g6 cap6 (List.replicate c lstP) ∧ w.heap.size ≤ g6) := ⟨(EO.rw hO6).1, Nat.le_trans b15.size (EO.rw hO6).2⟩
  have HB : Hid (Below w.heap.size w W6) := b16
  clear hO3 hO6 hR3 hG3 b1 b2 b3 b4 b5 b6 b12 b13 b14 b15 b16 hX2 hX5 HO1
  go_wp2_with fail
  go_ret2
  have bM : Below W6.heap.size W6 (W6.alloc (.map #[] 0)) := ab_alloc (Below.refl _ _) _
  have bC : Below W6.heap.size W6 ((W6.alloc (.map #[] 0)).alloc (.cells #[.slice q1 k cap1, .int .i64 sh, .int .i64 mo, .slice (some ⟨g3, 0, none⟩) n cap3, .slice (some ⟨g6, 0, none⟩) c cap6, .map (some W6.heap.size)] 93)) := ab_alloc bM _
  have hsz : (W6.alloc (.map #[] 0)).heap.size = W6.heap.size + 1 := by simp
  have hBk := Blk.new (W6.alloc (.map #[] 0)) #[.slice q1 k cap1, .int .i64 sh, .int .i64 mo, .slice (some ⟨g3, 0, none⟩) n cap3, .slice (some ⟨g6, 0, none⟩) c cap6, .map (some W6.heap.size)] 93
  rw [hsz] at hBk
  have hCm := (cm_new W6 (fun _ => zc)).keep (ab_alloc (Below.refl _ _) (.cells #[.slice q1 k cap1, .int .i64 sh, .int .i64 mo, .slice (some ⟨g3, 0, none⟩) n cap3, .slice (some ⟨g6, 0, none⟩) c cap6, .map (some W6.heap.size)] 93))
  have hok := HOK.out
  rw [HNB.out] at hok ⊢
  have hB6 := HB.out.size
  refine ⟨⟨⟨W6.heap.size + 1, W6.heap.size, g3, cap3, g6, cap6, .slice q1 k cap1⟩, rfl, ⟨?_, by show w.heap.size ≤ W6.heap.size + 1; omega, HIo.out.keep bC, HR3.out.1.keep bC, HR3.out.2, HR6.out.1.keep bC, HR6.out.2, hCm, hB6, hok⟩⟩, ab_trans HB.out bC⟩
  show Blk _ (W6.heap.size + 1) (bsC _ sh mo (List.replicate n newFl).length (List.replicate c lstP).length) _
  rw [List.length_replicate, List.length_replicate]
  exact hBk
end Go.Proofs.Ytoeilckeebojmaa
