/-
  Basin's inForm and Raise.
-/
import Derived.Test.YtoeilckeebojmaaPk37
namespace Go.Proofs.Ytoeilckeebojmaa
open Go.RowKit Go.Maps
set_option linter.unusedVariables false
set_option maxRecDepth 100000

/-- What an operation must be behind others. -/
structure InK (ops : List Op5) (fr la : Int) (k : Nat) (o : Op5) : Prop where
  kd : o.k = 1 ∨ o.k = 2
  lo : fr ≤ o.s
  hi : o.s ≤ la
  up : ∀ p, 0 < k → ops[k - 1]? = some p → p.s < o.s
theorem info_snoc {ops : List Op5} {fr la : Int} {k : Nat} {o : Op5} (h : infO (ops.take k) fr la) (ho : ops[k]? = some o) (hk : InK ops fr la k o) : infO (ops.take (k + 1)) fr la := by
  rw [List.take_add_one, ho]
  refine ⟨fun x hx => ?_, ?_⟩
  · rcases List.mem_append.1 hx with hx | hx
    · exact h.1 x hx
    · simp at hx; subst hx; exact ⟨hk.kd, hk.lo, hk.hi⟩
  · refine List.pairwise_append.2 ⟨h.2, by simp, fun x hx y hy => ?_⟩
    simp at hy
    subst hy
    obtain ⟨j, hj⟩ := List.mem_iff_getElem?.1 hx
    have hjk : j < k := by
      have := (List.getElem?_eq_some_iff.1 hj).1
      rw [List.length_take] at this
      omega
    have hlt := (List.getElem?_eq_some_iff.1 ho).1
    rw [List.getElem?_take_of_lt hjk] at hj
    obtain ⟨p, hp⟩ : ∃ p, ops[k - 1]? = some p := ⟨ops[k - 1]'(by omega), List.getElem?_eq_getElem (by omega)⟩
    have h1 := hk.up p (by omega) hp
    by_cases e : j = k - 1
    · subst e
      rw [hp] at hj
      cases hj
      exact h1
    · have h2 := List.pairwise_iff_getElem.1 h.2 j (k - 1) (by rw [List.length_take]; omega) (by rw [List.length_take]; omega) (by omega)
      have e1 : (ops.take k)[j]'(by rw [List.length_take]; omega) = x := by
        rw [List.getElem_take]
        exact (List.getElem?_eq_some_iff.1 hj).2
      have e2 : (ops.take k)[k - 1]'(by rw [List.length_take]; omega) = p := by
        rw [List.getElem_take]
        exact (List.getElem?_eq_some_iff.1 hp).2
      rw [e1, e2] at h2
      omega
theorem info_at {ops : List Op5} {fr la : Int} (h : infO ops fr la) {k : Nat} {o : Op5} (ho : ops[k]? = some o) : InK ops fr la k o := by
  have h1 := h.1 o (List.mem_of_getElem? ho)
  refine ⟨h1.1, h1.2.1, h1.2.2, fun p hk hp => ?_⟩
  obtain ⟨l1, e1⟩ := List.getElem?_eq_some_iff.1 ho
  obtain ⟨l2, e2⟩ := List.getElem?_eq_some_iff.1 hp
  have := List.pairwise_iff_getElem.1 h.2 (k - 1) k l2 l1 (by omega)
  rw [e1, e2] at this
  exact this
/-- What inForm answers. -/
def InfE (e : Ending) (ops : List Op5) (fr la : Int) : Prop := ∃ x : Bool, e = .returned (.bool x) ∧ (x = true ↔ infO ops fr la)
theorem infE_no {ops : List Op5} {fr la : Int} (h : ¬ infO ops fr la) : InfE (.returned (.bool false)) ops fr la := ⟨false, rfl, ⟨fun h => (by cases h), fun h' => absurd h' h⟩⟩
theorem infE_yes {ops : List Op5} {fr la : Int} (h : infO ops fr la) : InfE (.returned (.bool true)) ops fr la := ⟨true, rfl, ⟨fun _ => h, fun _ => rfl⟩⟩
theorem ret_b {x y : Bool} (h : x = y) : Ending.returned (.bool x) = .returned (.bool y) := by rw [h]
set_option maxHeartbeats 4000000 in
theorem bainform_any (vo : Value) (ops : List Op5) (fr la : Int) (w : World) (hO : ER E5 w vo ops) :
    Calls Try.prog 34 #[vo, .int .i64 fr, .int .i64 la] w fun e w' => InfE e ops fr la ∧ Below w.heap.size w w' := by
  obtain ⟨q, cap, g, off, rfl, hc, hm, hp, hr⟩ := hO.at
  clear hO
  generalize hn : ops.length = n at *
  go_enter Try.func34, Try.ntmps34
  go_wp2_with fail
  go_loopw [11] (fun i wr => ∃ k : Nat, k ≤ n ∧ i = .int .i64 (k : Int) ∧ infO (ops.take k) fr la ∧ Below w.heap.size w wr) (fun i _ => n - (intOf i).toNat)
  case atStart => exact ⟨0, by omega, rfl, ⟨fun o ho => by simp at ho, by simp⟩, Below.refl _ _⟩
  case round =>
    obtain ⟨k, hk, rfl, hin, hw⟩ := hrel
    by_cases c : k = n
    · subst c
      rw [List.take_of_length_le (by omega)] at hin
      have HI : Hid (infO ops fr la) := hin
      clear hr hin
      go_wp2_with fail
      go_ret
      exact ⟨infE_yes HI.out, hw⟩
    · obtain ⟨o, ho⟩ : ∃ o, ops[k]? = some o := ⟨ops[k], List.getElem?_eq_getElem (by omega)⟩
      obtain ⟨rfl, hgk⟩ := hp (by omega)
      have hki : (k : Int) < (n : Int) := by omega
      have z0 := keep_cell hw (hr k o ho 0 _ rfl) hgk
      have z1 := keep_cell hw (hr k o ho 1 _ rfl) hgk
      have z2 := keep_cell hw (hr k o ho 2 _ rfl) hgk
      have z3 := keep_cell hw (hr k o ho 3 _ rfl) hgk
      have z4 := keep_cell hw (hr k o ho 4 _ rfl) hgk
      rw [Nat.add_zero, show E5.k = 5 from rfl] at z0
      rw [show E5.k = 5 from rfl] at z1 z2 z3 z4
      obtain ⟨A, hE, hX, hwA⟩ := blk1 wr (opA o) 27
      have hwW := ab_trans hw hwA
      have y0 : ∀ y : Cls A, y.val.cell? ⟨wr.heap.size, 0, none⟩ = some (.int .i64 o.s) := fun y => (hX.keep y.prop).at rfl
      have y1 : A.cell? ⟨wr.heap.size, 1, none⟩ = some (.int .i64 o.k) := hX.at rfl
      have HNo : Hid (¬ InK ops fr la k o → ¬ infO ops fr la) := fun h1 h2 => h1 (info_at h2 ho)
      have HYes : Hid (InK ops fr la k o → infO (ops.take (k + 1)) fr la) := fun h => info_snoc hin ho h
      have HP : Hid (∀ p, 0 < k → ops[k - 1]? = some p → ∀ y : Cls A, y.val.cell? ⟨g, off + (k - 1) * 5, none⟩ = some (.int .i64 p.s)) := fun p hk0 hp0 y => by
        have := hr (k - 1) p hp0 0 _ rfl
        rw [Nat.add_zero] at this
        exact keep_cell (ab_trans hwW y.prop) this hgk
      have HX : Hid (∀ y : Cls A, Below w.heap.size w y.val) := fun y => ab_trans hwW y.prop
      clear hin hr hp
      unfold opA at hE
      by_cases k1 : o.k = 1 ∨ o.k = 2
      · have k1' := k1
        rcases k1 with k1 | k1
        · have n1 : (o.k != 1) = false := by simp [k1]
          by_cases c1 : o.s < fr
          · skip
            have HF : Hid (¬ infO ops fr la) := HNo.out (fun h => absurd h.lo (by omega))
            clear HNo HYes k1
            go_upto_region 6 with fail
            have HZ := cls_some A
            refine wp_region_below (by kernel_rfl) (by kernel_rfl) ?_
            repeat (go_big_quiet_step (fail))
            refine wpQuiet_nil ?_
            rintro V ⟨y, rfl⟩
            have hwV := HX.out y
            go_wp2_with fail
            go_ret
            exact ⟨infE_no HF.out, hwV⟩
          by_cases c2 : la < o.s
          · skip
            have HF : Hid (¬ infO ops fr la) := HNo.out (fun h => absurd h.hi (by omega))
            clear HNo HYes k1
            go_upto_region 6 with fail
            have HZ := cls_some A
            refine wp_region_below (by kernel_rfl) (by kernel_rfl) ?_
            repeat (go_big_quiet_step (fail))
            refine wpQuiet_nil ?_
            rintro V ⟨y, rfl⟩
            have hwV := HX.out y
            go_wp2_with fail
            go_ret
            exact ⟨infE_no HF.out, hwV⟩
          by_cases c3 : k = 0
          · have c3' : Hid (decide (0 < k) = false) := decide_eq_false (by omega)
            have HF : Hid (infO (ops.take (k + 1)) fr la) := HYes.out ⟨k1', by omega, by omega, fun p h0 _ => absurd h0 (by omega)⟩
            clear HNo HYes k1 c3
            go_upto_region 6 with fail
            have HZ := cls_some A
            have c30 := c3'.out
            refine wp_region_below (by kernel_rfl) (by kernel_rfl) ?_
            repeat (go_big_quiet_step (fail))
            refine wpQuiet_nil ?_
            clear c30
            rintro V ⟨y, rfl⟩
            have hwV := HX.out y
            go_wp2_with fail
            go_roundw
            case rel => exact ⟨k + 1, by omega, by go_num, HF.out, hwV⟩
            case measure => simp [intOf]; omega
          obtain ⟨j, rfl⟩ : ∃ j, k = j + 1 := ⟨k - 1, by omega⟩
          obtain ⟨p, hp⟩ : ∃ p, ops[j]? = some p := ⟨ops[j]'(by omega), List.getElem?_eq_getElem (by omega)⟩
          have c3' : (0 : Int) < ((j + 1 : Nat) : Int) := by omega
          have hjn : (j : Int) < (n : Int) := by omega
          have p0 : ∀ y : Cls A, y.val.cell? ⟨g, off + j * 5, none⟩ = some (.int .i64 p.s) := HP.out p (by omega) (by rw [Nat.add_sub_cancel]; exact hp)
          have HPp : Hid (ops[j]? = some p) := hp
          clear hp HP c3
          by_cases c4 : o.s ≤ p.s
          · skip
            have HF : Hid (¬ infO ops fr la) := HNo.out (fun h => absurd (h.up p (by omega) (by rw [Nat.add_sub_cancel]; exact HPp.out)) (by omega))
            clear HNo HYes k1
            go_upto_region 6 with fail
            have HZ := cls_some A
            refine wp_region_below (by kernel_rfl) (by kernel_rfl) ?_
            repeat (go_big_quiet_step (fail))
            refine wpQuiet_nil ?_
            rintro V ⟨y, rfl⟩
            have hwV := HX.out y
            go_wp2_with fail
            go_ret
            exact ⟨infE_no HF.out, hwV⟩
          · skip
            have HF : Hid (infO (ops.take (j + 1 + 1)) fr la) := HYes.out ⟨k1', by omega, by omega, fun p' _ hp' => by rw [Nat.add_sub_cancel, HPp.out] at hp'; cases hp'; omega⟩
            clear HNo HYes k1
            go_upto_region 6 with fail
            have HZ := cls_some A
            refine wp_region_below (by kernel_rfl) (by kernel_rfl) ?_
            repeat (go_big_quiet_step (fail))
            refine wpQuiet_nil ?_
            rintro V ⟨y, rfl⟩
            have hwV := HX.out y
            go_wp2_with fail
            go_roundw
            case rel => exact ⟨j + 1 + 1, by omega, by go_num, HF.out, hwV⟩
            case measure => simp [intOf]; omega
        · have n1 : (o.k != 1) = true := by simp [k1]
          have n2 : (o.k != 2) = false := by simp [k1]
          by_cases c1 : o.s < fr
          · skip
            have HF : Hid (¬ infO ops fr la) := HNo.out (fun h => absurd h.lo (by omega))
            clear HNo HYes k1
            go_upto_region 6 with fail
            have HZ := cls_some A
            refine wp_region_below (by kernel_rfl) (by kernel_rfl) ?_
            repeat (go_big_quiet_step (fail))
            refine wpQuiet_nil ?_
            rintro V ⟨y, rfl⟩
            have hwV := HX.out y
            go_wp2_with fail
            go_ret
            exact ⟨infE_no HF.out, hwV⟩
          by_cases c2 : la < o.s
          · skip
            have HF : Hid (¬ infO ops fr la) := HNo.out (fun h => absurd h.hi (by omega))
            clear HNo HYes k1
            go_upto_region 6 with fail
            have HZ := cls_some A
            refine wp_region_below (by kernel_rfl) (by kernel_rfl) ?_
            repeat (go_big_quiet_step (fail))
            refine wpQuiet_nil ?_
            rintro V ⟨y, rfl⟩
            have hwV := HX.out y
            go_wp2_with fail
            go_ret
            exact ⟨infE_no HF.out, hwV⟩
          by_cases c3 : k = 0
          · have c3' : Hid (decide (0 < k) = false) := decide_eq_false (by omega)
            have HF : Hid (infO (ops.take (k + 1)) fr la) := HYes.out ⟨k1', by omega, by omega, fun p h0 _ => absurd h0 (by omega)⟩
            clear HNo HYes k1 c3
            go_upto_region 6 with fail
            have HZ := cls_some A
            have c30 := c3'.out
            refine wp_region_below (by kernel_rfl) (by kernel_rfl) ?_
            repeat (go_big_quiet_step (fail))
            refine wpQuiet_nil ?_
            clear c30
            rintro V ⟨y, rfl⟩
            have hwV := HX.out y
            go_wp2_with fail
            go_roundw
            case rel => exact ⟨k + 1, by omega, by go_num, HF.out, hwV⟩
            case measure => simp [intOf]; omega
          obtain ⟨j, rfl⟩ : ∃ j, k = j + 1 := ⟨k - 1, by omega⟩
          obtain ⟨p, hp⟩ : ∃ p, ops[j]? = some p := ⟨ops[j]'(by omega), List.getElem?_eq_getElem (by omega)⟩
          have c3' : (0 : Int) < ((j + 1 : Nat) : Int) := by omega
          have hjn : (j : Int) < (n : Int) := by omega
          have p0 : ∀ y : Cls A, y.val.cell? ⟨g, off + j * 5, none⟩ = some (.int .i64 p.s) := HP.out p (by omega) (by rw [Nat.add_sub_cancel]; exact hp)
          have HPp : Hid (ops[j]? = some p) := hp
          clear hp HP c3
          by_cases c4 : o.s ≤ p.s
          · skip
            have HF : Hid (¬ infO ops fr la) := HNo.out (fun h => absurd (h.up p (by omega) (by rw [Nat.add_sub_cancel]; exact HPp.out)) (by omega))
            clear HNo HYes k1
            go_upto_region 6 with fail
            have HZ := cls_some A
            refine wp_region_below (by kernel_rfl) (by kernel_rfl) ?_
            repeat (go_big_quiet_step (fail))
            refine wpQuiet_nil ?_
            rintro V ⟨y, rfl⟩
            have hwV := HX.out y
            go_wp2_with fail
            go_ret
            exact ⟨infE_no HF.out, hwV⟩
          · skip
            have HF : Hid (infO (ops.take (j + 1 + 1)) fr la) := HYes.out ⟨k1', by omega, by omega, fun p' _ hp' => by rw [Nat.add_sub_cancel, HPp.out] at hp'; cases hp'; omega⟩
            clear HNo HYes k1
            go_upto_region 6 with fail
            have HZ := cls_some A
            refine wp_region_below (by kernel_rfl) (by kernel_rfl) ?_
            repeat (go_big_quiet_step (fail))
            refine wpQuiet_nil ?_
            rintro V ⟨y, rfl⟩
            have hwV := HX.out y
            go_wp2_with fail
            go_roundw
            case rel => exact ⟨j + 1 + 1, by omega, by go_num, HF.out, hwV⟩
            case measure => simp [intOf]; omega
      · have n1 : (o.k != 1) = true := by simp; omega
        have n2 : (o.k != 2) = true := by simp; omega
        have HF : Hid (¬ infO ops fr la) := HNo.out (fun h => k1 h.kd)
        clear HNo HYes k1 HP HX
        go_wp2_with fail
        go_ret
        exact ⟨infE_no HF.out, hwW⟩
end Go.Proofs.Ytoeilckeebojmaa
