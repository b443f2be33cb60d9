/-
  What plan's calls answer: a plan, and whether it is good.
-/
import Derived.Test.YtnooedipanhkjaaIsX
import Derived.Test.YtnooedipanhkjaaPlaceA
import Derived.Test.YtnooedipanhkjaaChB
namespace Go.Proofs.Ytnooedipanhkjaa
open Go.RowKit
set_option linter.unusedVariables false
set_option maxRecDepth 100000

/-- A plan. -/
structure Pn where
  so : Int
  ke : Int
  v : Value
  l : List Int
  sh : Int
  ho : Int
  ce : Int
  ba : Int
  le : Int
abbrev pnC (p : Pn) : Array Value := #[.int .i64 p.so, .int .i64 p.ke, p.v, .int .i64 p.sh, .int .i64 p.ho, .int .i64 p.ce, .int .i64 p.ba, .int .i64 p.le]
abbrev pnV (p : Pn) : Value := .agg (pnC p)
theorem info_pn : (Try.prog.info? 24).map (·.size) = some 8 := by kernel_rfl
def upB (n m : Int) : Bool := decide (1 ≤ n) && decide (n ≤ m)
def allB (l : List Int) : Bool := l.all fun r => !decide (r < 1)
def gdP (p : Pn) : Bool := upB p.so 4 && upB p.ke 5 && (p.ke.tmod 2 == 1) && upB (p.l.length : Int) 3 && allB p.l && upB p.sh 4 && upB p.ho 64 && upB p.ce 1024 && upB p.ba 16 && upB p.le 20

theorem upto_any (n m : Int) (w : World) : Calls Try.prog 29 #[.int .i64 n, .int .i64 m] w fun e w' => e = .returned (.bool (upB n m)) ∧ w' = w := by
  have HV : Hid (upB n m = (decide (1 ≤ n) && decide (n ≤ m))) := rfl
  by_cases c : 1 ≤ n
  · have hc : decide (1 ≤ n) = true := decide_eq_true c
    rw [hc] at HV
    go_enter Try.func29, Try.ntmps29
    go_wp2_with fail
    go_ret
    exact ⟨by rw [HV.out]; rfl, rfl⟩
  · have hc : decide (1 ≤ n) = false := decide_eq_false c
    rw [hc] at HV
    go_enter Try.func29, Try.ntmps29
    go_wp2_with fail
    go_ret
    exact ⟨by rw [HV.out]; rfl, rfl⟩
theorem pnone_any (r : Int) (w : World) : Calls Try.prog 28 #[.int .i64 r] w fun e w' => e = .returned (.bool (decide (r < 1))) ∧ w' = w := by
  go_enter Try.func28, Try.ntmps28
  go_wp2_with fail
  go_ret
  exact ⟨rfl, rfl⟩
/-- The function value that asks. -/
abbrev noneV : Value := .func (.func 28) #[] #[]
theorem pindex_any (v : Value) (l : List Int) (w : World) (hv : Is w v l) (hl : l.length ≤ 100000) :
    Calls Try.prog 32 #[v, noneV] w fun e w' => ∃ i : Int, e = .returned (.int .i64 i) ∧ decide (0 ≤ i) = (!allB l) ∧ Below w.heap.size w w' := by
  obtain ⟨q, cap, ev⟩ := hv.form
  subst ev
  obtain ⟨n, hn⟩ : ∃ n, l.length = n := ⟨_, rfl⟩
  rw [hn] at hv hl ⊢
  go_enter Try.func32, Try.ntmps32
  go_wp2_with fail
  go_loopw [8] (fun i wr => ∃ k : Nat, k ≤ n ∧ i = .int .i64 (k : Int) ∧ (∀ x ∈ l.take k, 1 ≤ x) ∧ Below w.heap.size w wr) (fun i _ => n - (intOf i).toNat)
  case atStart => exact ⟨0, by omega, rfl, fun x hx => by simp at hx, Below.refl _ _⟩
  case round =>
    obtain ⟨k, hk, rfl, hall, hw⟩ := hrel
    by_cases c : k = n
    · subst c
      have HV : Hid ((!allB l) = false) := by
        show _ = _
        rw [List.take_of_length_le (by omega)] at hall
        unfold allB
        simp only [Bool.not_eq_false', List.all_eq_true, Bool.not_eq_true', decide_eq_false_iff_not]
        exact fun x hx => by have := hall x hx; omega
      clear hall hv
      go_wp2_with fail
      go_ret
      exact ⟨-1, rfl, by rw [HV.out]; rfl, hw⟩
    · obtain ⟨x, hx⟩ : ∃ x, l[k]? = some x := ⟨l[k], List.getElem?_eq_getElem (by omega)⟩
      obtain ⟨g, off, rfl, hg, hr⟩ := (hv.keep hw).at (by omega)
      have y0 := hr k x hx
      have hki : (k : Int) < (n : Int) := by omega
      clear hr hv
      by_cases hc : x < 1
      · have HV : Hid ((!allB l) = true) := by
          show _ = _
          unfold allB
          simp only [Bool.not_eq_true', List.all_eq_false]
          exact ⟨_, List.mem_of_getElem? hx, by simp [hc]⟩
        have hd : decide (x < 1) = true := decide_eq_true hc
        clear hall hx hc
        go_wp2_with (go_at_call 28; refine (pnone_any x _).mono ?_; rintro e W2 ⟨rfl, rfl⟩; rw [hd])
        go_ret
        exact ⟨(k : Int), rfl, by rw [HV.out]; exact decide_eq_true (by omega), hw⟩
      · have HV : Hid (∀ x ∈ l.take (k + 1), 1 ≤ x) := by
          intro x hm
          rw [List.take_add_one, hx] at hm
          simp only [Option.toList_some, List.mem_append, List.mem_singleton] at hm
          rcases hm with hm | rfl
          · exact hall x hm
          · omega
        have hd : decide (x < 1) = false := decide_eq_false hc
        clear hall hx hc
        go_wp2_with (go_at_call 28; refine (pnone_any x _).mono ?_; rintro e W2 ⟨rfl, rfl⟩; rw [hd])
        go_roundw
        case rel => exact ⟨k + 1, by omega, by go_num, HV.out, hw⟩
        case measure => simp [intOf]; omega
theorem pcontains_any (v : Value) (l : List Int) (w : World) (hv : Is w v l) (hl : l.length ≤ 100000) :
    Calls Try.prog 30 #[v, noneV] w fun e w' => e = .returned (.bool (!allB l)) ∧ Below w.heap.size w w' := by
  go_enter Try.func30, Try.ntmps30
  go_wp2_with fail
  refine (pindex_any v l w hv hl).mono ?_
  rintro e w' ⟨i, rfl, hi, hw⟩
  have HI : Hid (_ = _) := hi
  clear hv hi
  go_wp2_with fail
  go_ret
  exact ⟨ret_bool HI.out, hw⟩
set_option maxHeartbeats 4000000 in
theorem pgood_any (p : Pn) (w : World) (hv : Is w p.v p.l) :
    Calls Try.prog 21 #[pnV p] w fun e w' => e = .returned (.bool (gdP p)) ∧ Below w.heap.size w w' := by
  obtain ⟨q, cap, ev⟩ := hv.form
  obtain ⟨so, ke, v, l, sh, ho, ce, ba, le⟩ := p
  dsimp only at ev hv
  subst ev
  have hcap := hv.len
  obtain ⟨n, hn⟩ : ∃ n, l.length = n := ⟨_, rfl⟩
  obtain ⟨b1, h1⟩ : ∃ b, upB so 4 = b := ⟨_, rfl⟩
  obtain ⟨b2, h2⟩ : ∃ b, upB ke 5 = b := ⟨_, rfl⟩
  obtain ⟨b3, h3⟩ : ∃ b, (ke.tmod 2 == 1) = b := ⟨_, rfl⟩
  obtain ⟨b4, h4⟩ : ∃ b, upB (n : Int) 3 = b := ⟨_, rfl⟩
  obtain ⟨b5, h5⟩ : ∃ b, allB l = b := ⟨_, rfl⟩
  obtain ⟨b6, h6⟩ : ∃ b, upB sh 4 = b := ⟨_, rfl⟩
  obtain ⟨b7, h7⟩ : ∃ b, upB ho 64 = b := ⟨_, rfl⟩
  obtain ⟨b8, h8⟩ : ∃ b, upB ce 1024 = b := ⟨_, rfl⟩
  obtain ⟨b9, h9⟩ : ∃ b, upB ba 16 = b := ⟨_, rfl⟩
  obtain ⟨b10, h10⟩ : ∃ b, upB le 20 = b := ⟨_, rfl⟩
  have HV : Hid (gdP ⟨so, ke, .slice q n cap, l, sh, ho, ce, ba, le⟩ = (b1 && b2 && b3 && b4 && b5 && b6 && b7 && b8 && b9 && b10)) := by
    show _ = _
    rw [← h1, ← h2, ← h3, ← h4, ← h5, ← h6, ← h7, ← h8, ← h9, ← h10, ← hn]; rfl
  have hl4 : Hid (b4 = true → n ≤ 3) := fun e => by
    rw [← h4] at e; unfold upB at e; simp at e; omega
  rw [hn] at hv ⊢
  obtain ⟨A, hAe, hX, hw⟩ := blk1 w #[.int .i64 so, .int .i64 ke, .slice q n cap, .int .i64 sh, .int .i64 ho, .int .i64 ce, .int .i64 ba, .int .i64 le] 24
  have hvA := hv.keep hw
  have x0 : A.cell? ⟨w.heap.size, 0, none⟩ = some (.int .i64 so) := hX.at rfl
  have x1 : A.cell? ⟨w.heap.size, 1, none⟩ = some (.int .i64 ke) := hX.at rfl
  have x2 : A.cell? ⟨w.heap.size, 2, none⟩ = some (.slice q n cap) := hX.at rfl
  have x3 : A.cell? ⟨w.heap.size, 3, none⟩ = some (.int .i64 sh) := hX.at rfl
  have x4 : A.cell? ⟨w.heap.size, 4, none⟩ = some (.int .i64 ho) := hX.at rfl
  have x5 : A.cell? ⟨w.heap.size, 5, none⟩ = some (.int .i64 ce) := hX.at rfl
  have x6 : A.cell? ⟨w.heap.size, 6, none⟩ = some (.int .i64 ba) := hX.at rfl
  have x7 : A.cell? ⟨w.heap.size, 7, none⟩ = some (.int .i64 le) := hX.at rfl
  go_enter Try.func21, Try.ntmps21
  go_upto_region 2 with fail
  clear hAe
  have U1 : ∀ W : World, Calls Try.prog 29 #[.int .i64 so, .int .i64 4] W fun e w' => e = .returned (.bool b1) ∧ w' = W := fun W => by rw [← h1]; exact upto_any _ _ _
  have U2 : ∀ W : World, Calls Try.prog 29 #[.int .i64 ke, .int .i64 5] W fun e w' => e = .returned (.bool b2) ∧ w' = W := fun W => by rw [← h2]; exact upto_any _ _ _
  have U4 : ∀ W : World, Calls Try.prog 29 #[.int .i64 (n : Int), .int .i64 3] W fun e w' => e = .returned (.bool b4) ∧ w' = W := fun W => by rw [← h4]; exact upto_any _ _ _
  have U5 : b4 = true → ∀ W : Cls A, Calls Try.prog 30 #[.slice q n cap, noneV] W.val fun e w' => e = .returned (.bool (!b5)) ∧ Below W.val.heap.size W.val w' := fun e W => by rw [← h5]; exact pcontains_any _ l _ (hvA.keep W.prop) (by have := hl4.out e; omega)
  have U6 : ∀ W : World, Calls Try.prog 29 #[.int .i64 sh, .int .i64 4] W fun e w' => e = .returned (.bool b6) ∧ w' = W := fun W => by rw [← h6]; exact upto_any _ _ _
  have U7 : ∀ W : World, Calls Try.prog 29 #[.int .i64 ho, .int .i64 64] W fun e w' => e = .returned (.bool b7) ∧ w' = W := fun W => by rw [← h7]; exact upto_any _ _ _
  have U8 : ∀ W : World, Calls Try.prog 29 #[.int .i64 ce, .int .i64 1024] W fun e w' => e = .returned (.bool b8) ∧ w' = W := fun W => by rw [← h8]; exact upto_any _ _ _
  have U9 : ∀ W : World, Calls Try.prog 29 #[.int .i64 ba, .int .i64 16] W fun e w' => e = .returned (.bool b9) ∧ w' = W := fun W => by rw [← h9]; exact upto_any _ _ _
  have U10 : ∀ W : World, Calls Try.prog 29 #[.int .i64 le, .int .i64 20] W fun e w' => e = .returned (.bool b10) ∧ w' = W := fun W => by rw [← h10]; exact upto_any _ _ _
  have y0 := cls_cell x0 hX.lt
  have y1 := cls_cell x1 hX.lt
  have y2 := cls_cell x2 hX.lt
  have y3 := cls_cell x3 hX.lt
  have y4 := cls_cell x4 hX.lt
  have y5 := cls_cell x5 hX.lt
  have y6 := cls_cell x6 hX.lt
  have y7 := cls_cell x7 hX.lt
  clear x0 x1 x2 x3 x4 x5 x6 x7 hX hv hvA h1 h2 h4 h5 h6 h7 h8 h9 h10
  refine wp_text_below ?_
  have HZ := cls_some A
  cases b1
  · repeat (go_big_quiet_step (fail))
    go_big_quiet_step ((go_at_call 29; exact calls_same (U1 _)))
    repeat (go_big_quiet_step (fail))
    refine wpQuiet_nil ?_
    rintro _ ⟨x, rfl⟩
    go_wp2_with fail
    go_ret
    exact ⟨by rw [HV.out]; rfl, ab_trans hw x.prop⟩
  · skip
    cases b2
    · repeat (go_big_quiet_step (fail))
      go_big_quiet_step ((go_at_call 29; exact calls_same (U1 _)))
      repeat (go_big_quiet_step (fail))
      go_big_quiet_step ((go_at_call 29; exact calls_same (U2 _)))
      repeat (go_big_quiet_step (fail))
      refine wpQuiet_nil ?_
      rintro _ ⟨x, rfl⟩
      go_wp2_with fail
      go_ret
      exact ⟨by rw [HV.out]; rfl, ab_trans hw x.prop⟩
    · skip
      cases b3
      · repeat (go_big_quiet_step (fail))
        go_big_quiet_step ((go_at_call 29; exact calls_same (U1 _)))
        repeat (go_big_quiet_step (fail))
        go_big_quiet_step ((go_at_call 29; exact calls_same (U2 _)))
        repeat (go_big_quiet_step (fail))
        refine wpQuiet_nil ?_
        rintro _ ⟨x, rfl⟩
        go_wp2_with fail
        go_ret
        exact ⟨by rw [HV.out]; rfl, ab_trans hw x.prop⟩
      · skip
        cases b4
        · repeat (go_big_quiet_step (fail))
          go_big_quiet_step ((go_at_call 29; exact calls_same (U1 _)))
          repeat (go_big_quiet_step (fail))
          go_big_quiet_step ((go_at_call 29; exact calls_same (U2 _)))
          repeat (go_big_quiet_step (fail))
          go_big_quiet_step ((go_at_call 29; exact calls_same (U4 _)))
          repeat (go_big_quiet_step (fail))
          refine wpQuiet_nil ?_
          rintro _ ⟨x, rfl⟩
          go_wp2_with fail
          go_ret
          exact ⟨by rw [HV.out]; rfl, ab_trans hw x.prop⟩
        · skip
          cases b5
          · repeat (go_big_quiet_step (fail))
            go_big_quiet_step ((go_at_call 29; exact calls_same (U1 _)))
            repeat (go_big_quiet_step (fail))
            go_big_quiet_step ((go_at_call 29; exact calls_same (U2 _)))
            repeat (go_big_quiet_step (fail))
            go_big_quiet_step ((go_at_call 29; exact calls_same (U4 _)))
            repeat (go_big_quiet_step (fail))
            go_big_quiet_step ((go_at_call 30; exact calls_below (U5 rfl _)))
            repeat (go_big_quiet_step (fail))
            refine wpQuiet_nil ?_
            rintro _ ⟨x, rfl⟩
            go_wp2_with fail
            go_ret
            exact ⟨by rw [HV.out]; rfl, ab_trans hw x.prop⟩
          · skip
            cases b6
            · repeat (go_big_quiet_step (fail))
              go_big_quiet_step ((go_at_call 29; exact calls_same (U1 _)))
              repeat (go_big_quiet_step (fail))
              go_big_quiet_step ((go_at_call 29; exact calls_same (U2 _)))
              repeat (go_big_quiet_step (fail))
              go_big_quiet_step ((go_at_call 29; exact calls_same (U4 _)))
              repeat (go_big_quiet_step (fail))
              go_big_quiet_step ((go_at_call 30; exact calls_below (U5 rfl _)))
              repeat (go_big_quiet_step (fail))
              go_big_quiet_step ((go_at_call 29; exact calls_same (U6 _)))
              repeat (go_big_quiet_step (fail))
              refine wpQuiet_nil ?_
              rintro _ ⟨x, rfl⟩
              go_wp2_with fail
              go_ret
              exact ⟨by rw [HV.out]; rfl, ab_trans hw x.prop⟩
            · skip
              cases b7
              · repeat (go_big_quiet_step (fail))
                go_big_quiet_step ((go_at_call 29; exact calls_same (U1 _)))
                repeat (go_big_quiet_step (fail))
                go_big_quiet_step ((go_at_call 29; exact calls_same (U2 _)))
                repeat (go_big_quiet_step (fail))
                go_big_quiet_step ((go_at_call 29; exact calls_same (U4 _)))
                repeat (go_big_quiet_step (fail))
                go_big_quiet_step ((go_at_call 30; exact calls_below (U5 rfl _)))
                repeat (go_big_quiet_step (fail))
                go_big_quiet_step ((go_at_call 29; exact calls_same (U6 _)))
                repeat (go_big_quiet_step (fail))
                go_big_quiet_step ((go_at_call 29; exact calls_same (U7 _)))
                repeat (go_big_quiet_step (fail))
                refine wpQuiet_nil ?_
                rintro _ ⟨x, rfl⟩
                go_wp2_with fail
                go_ret
                exact ⟨by rw [HV.out]; rfl, ab_trans hw x.prop⟩
              · skip
                cases b8
                · repeat (go_big_quiet_step (fail))
                  go_big_quiet_step ((go_at_call 29; exact calls_same (U1 _)))
                  repeat (go_big_quiet_step (fail))
                  go_big_quiet_step ((go_at_call 29; exact calls_same (U2 _)))
                  repeat (go_big_quiet_step (fail))
                  go_big_quiet_step ((go_at_call 29; exact calls_same (U4 _)))
                  repeat (go_big_quiet_step (fail))
                  go_big_quiet_step ((go_at_call 30; exact calls_below (U5 rfl _)))
                  repeat (go_big_quiet_step (fail))
                  go_big_quiet_step ((go_at_call 29; exact calls_same (U6 _)))
                  repeat (go_big_quiet_step (fail))
                  go_big_quiet_step ((go_at_call 29; exact calls_same (U7 _)))
                  repeat (go_big_quiet_step (fail))
                  go_big_quiet_step ((go_at_call 29; exact calls_same (U8 _)))
                  repeat (go_big_quiet_step (fail))
                  refine wpQuiet_nil ?_
                  rintro _ ⟨x, rfl⟩
                  go_wp2_with fail
                  go_ret
                  exact ⟨by rw [HV.out]; rfl, ab_trans hw x.prop⟩
                · skip
                  cases b9
                  · repeat (go_big_quiet_step (fail))
                    go_big_quiet_step ((go_at_call 29; exact calls_same (U1 _)))
                    repeat (go_big_quiet_step (fail))
                    go_big_quiet_step ((go_at_call 29; exact calls_same (U2 _)))
                    repeat (go_big_quiet_step (fail))
                    go_big_quiet_step ((go_at_call 29; exact calls_same (U4 _)))
                    repeat (go_big_quiet_step (fail))
                    go_big_quiet_step ((go_at_call 30; exact calls_below (U5 rfl _)))
                    repeat (go_big_quiet_step (fail))
                    go_big_quiet_step ((go_at_call 29; exact calls_same (U6 _)))
                    repeat (go_big_quiet_step (fail))
                    go_big_quiet_step ((go_at_call 29; exact calls_same (U7 _)))
                    repeat (go_big_quiet_step (fail))
                    go_big_quiet_step ((go_at_call 29; exact calls_same (U8 _)))
                    repeat (go_big_quiet_step (fail))
                    go_big_quiet_step ((go_at_call 29; exact calls_same (U9 _)))
                    repeat (go_big_quiet_step (fail))
                    refine wpQuiet_nil ?_
                    rintro _ ⟨x, rfl⟩
                    go_wp2_with fail
                    go_ret
                    exact ⟨by rw [HV.out]; rfl, ab_trans hw x.prop⟩
                  · skip
                    cases b10
                    · repeat (go_big_quiet_step (fail))
                      go_big_quiet_step ((go_at_call 29; exact calls_same (U1 _)))
                      repeat (go_big_quiet_step (fail))
                      go_big_quiet_step ((go_at_call 29; exact calls_same (U2 _)))
                      repeat (go_big_quiet_step (fail))
                      go_big_quiet_step ((go_at_call 29; exact calls_same (U4 _)))
                      repeat (go_big_quiet_step (fail))
                      go_big_quiet_step ((go_at_call 30; exact calls_below (U5 rfl _)))
                      repeat (go_big_quiet_step (fail))
                      go_big_quiet_step ((go_at_call 29; exact calls_same (U6 _)))
                      repeat (go_big_quiet_step (fail))
                      go_big_quiet_step ((go_at_call 29; exact calls_same (U7 _)))
                      repeat (go_big_quiet_step (fail))
                      go_big_quiet_step ((go_at_call 29; exact calls_same (U8 _)))
                      repeat (go_big_quiet_step (fail))
                      go_big_quiet_step ((go_at_call 29; exact calls_same (U9 _)))
                      repeat (go_big_quiet_step (fail))
                      go_big_quiet_step ((go_at_call 29; exact calls_same (U10 _)))
                      repeat (go_big_quiet_step (fail))
                      refine wpQuiet_nil ?_
                      rintro _ ⟨x, rfl⟩
                      go_wp2_with fail
                      go_ret
                      exact ⟨by rw [HV.out]; rfl, ab_trans hw x.prop⟩
                    · repeat (go_big_quiet_step (fail))
                      go_big_quiet_step ((go_at_call 29; exact calls_same (U1 _)))
                      repeat (go_big_quiet_step (fail))
                      go_big_quiet_step ((go_at_call 29; exact calls_same (U2 _)))
                      repeat (go_big_quiet_step (fail))
                      go_big_quiet_step ((go_at_call 29; exact calls_same (U4 _)))
                      repeat (go_big_quiet_step (fail))
                      go_big_quiet_step ((go_at_call 30; exact calls_below (U5 rfl _)))
                      repeat (go_big_quiet_step (fail))
                      go_big_quiet_step ((go_at_call 29; exact calls_same (U6 _)))
                      repeat (go_big_quiet_step (fail))
                      go_big_quiet_step ((go_at_call 29; exact calls_same (U7 _)))
                      repeat (go_big_quiet_step (fail))
                      go_big_quiet_step ((go_at_call 29; exact calls_same (U8 _)))
                      repeat (go_big_quiet_step (fail))
                      go_big_quiet_step ((go_at_call 29; exact calls_same (U9 _)))
                      repeat (go_big_quiet_step (fail))
                      go_big_quiet_step ((go_at_call 29; exact calls_same (U10 _)))
                      repeat (go_big_quiet_step (fail))
                      refine wpQuiet_nil ?_
                      rintro _ ⟨x, rfl⟩
                      go_wp2_with fail
                      go_ret
                      exact ⟨by rw [HV.out]; rfl, ab_trans hw x.prop⟩
end Go.Proofs.Ytnooedipanhkjaa
