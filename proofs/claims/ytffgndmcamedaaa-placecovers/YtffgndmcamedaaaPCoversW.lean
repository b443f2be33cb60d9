/-
  The walk of estuarylaw03.PlaceCovers.
-/
import Derived.Test.YtffgndmcamedaaaPCoversP
import Derived.Test.YtffgndmcamedaaaPlaceS
namespace Go.Proofs.Ytffgndmcamedaaa
open Go.RowKit
set_option linter.unusedVariables false

theorem bs_emptyP (w : World) : (Instr.buildSlice 33 0 #[]).run Try.prog w = .ok (.slice (some ⟨w.heap.size, 0, none⟩) 0 0) (w.alloc (.cells #[] 23)) := by kernel_rfl
theorem bs0P {ops : Array Oper} {rest : List Oper} {o : Oper} {a : Act} {w : World} {Q : Exit → Act → World → Prop} (hw : Region.wanted o (yielded ops a.tmps) = true) {parts : Array (Nat × Operand)} (ho : o.op = .buildSlice 33 0 parts) (hl : parts.map (fun (i, x) => (i, a.eval x)) = #[])
    (h : ∀ W', W'.ownsRow w.heap.size 23 2 (.slice (some ⟨w.heap.size, 0, none⟩) 0 0) 0 [] → Below w.heap.size w W' → wpList Try.prog ops Q rest (a.put o.dst (.slice (some ⟨w.heap.size, 0, none⟩) 0 0)) W') : wpList Try.prog ops Q (o :: rest) a w := by
  unfold wpList
  rw [if_pos hw]
  left
  unfold Oper.wp execOp
  simp only [ho, Sem.run_bind, hl, bs_emptyP, Result.andThen_ok]
  exact h _ (own_empty w w _ _ (Nat.le_refl _)) ((Below.refl _ _).alloc (Nat.le_refl _) _)
/-- 'make' of so many places. -/
theorem mk_plc {ops : Array Oper} {rest : List Oper} {o : Oper} {a : Act} {w : World} {Q : Exit → Act → World → Prop} (hw : Region.wanted o (yielded ops a.tmps) = true) {x y : Operand} (ho : o.op = .makeSlice 33 x y) {c : Nat} (hx : a.eval x = .int .i64 (c : Int)) (hy : a.eval y = .int .i64 (c : Int)) (hc : c ≤ 1000)
    (h : ∀ W', W'.ownsRow w.heap.size 23 2 (.slice (some ⟨w.heap.size, 0, none⟩) c c) c (flat2 (lst c 0)) → Below w.heap.size w W' → wpList Try.prog ops Q rest (a.put o.dst (.slice (some ⟨w.heap.size, 0, none⟩) c c)) W') : wpList Try.prog ops Q (o :: rest) a w := by
  obtain ⟨i, hi, hz0, hz1, hz2⟩ := info_parts infoPlc
  obtain ⟨w', hr, ho', hg⟩ := run_make_full (P := Try.prog) w w.heap.size 33 23 i _ 2 Try.underlying33 hi hz0 hz1 .i64 .i64 c (by rw [hz2]; omega) (by unfold maxLen; omega) (Nat.le_refl _)
  rw [made_plc] at ho'
  unfold wpList
  rw [if_pos hw]
  left
  unfold Oper.wp execOp
  simp only [ho, Sem.run_bind, hx, hy, hr, Result.andThen_ok]
  exact h _ ho' (below_grown (Below.refl _ _) hg)
abbrev Askd (s0 s1 t key s4 : Int) (q : Option Addr) (n cap : Nat) (sh : Int) (q2 : Option Addr) (n2 cap2 : Nat) : Array Value := #[.int .i64 s0, .int .i64 s1, .int .i64 t, .int .i64 key, .int .i64 s4, .slice q n cap, .int .i64 sh, .slice q2 n2 cap2]

theorem rise_num (r : Int) : ∃ R : Nat, wrap64 ((IntKind.u64.wrap r).tmod 3) = (R : Int) ∧ R ≤ 2 := by
  have h2 : 0 ≤ IntKind.u64.wrap r := by simp [IntKind.wrap, IntKind.signed, IntKind.bits] <;> omega
  have h3 := Int.tmod_nonneg 3 h2
  have h4 := Int.tmod_lt_of_pos (IntKind.u64.wrap r) (b := 3) (by omega)
  generalize (IntKind.u64.wrap r).tmod 3 = x at *
  refine ⟨x.toNat, ?_, by omega⟩
  unfold wrap64; omega
theorem covers_big (s0 s1 t key s4 : Int) (q : Option Addr) (n cap : Nat) (sh : Int) (q2 : Option Addr) (n2 cap2 : Nat) (q3 : Option Addr) (n3 cap3 : Nat) (w : World) (h : 100 < n ∨ (n ≤ 100 ∧ 500 < n2) ∨ (n ≤ 100 ∧ n2 ≤ 500 ∧ 500 < n3)) :
    Calls Try.prog 8 #[.agg (Askd s0 s1 t key s4 q n cap sh q2 n2 cap2), .slice q3 n3 cap3] w fun e w' => e = .returned (.bool true) ∧ Below w.heap.size w w' := by
  have HA : ∀ w1, Below (w.alloc (.cells (Askd s0 s1 t key s4 q n cap sh q2 n2 cap2) 35)).heap.size (w.alloc (.cells (Askd s0 s1 t key s4 q n cap sh q2 n2 cap2) 35)) w1 → w1.cell? ⟨w.heap.size, 5, none⟩ = some (.slice q n cap) ∧ w1.cell? ⟨w.heap.size, 7, none⟩ = some (.slice q2 n2 cap2) := by
    intro w1 hb
    have hB := (Blk.new w (Askd s0 s1 t key s4 q n cap sh q2 n2 cap2) 35).keep hb
    exact ⟨hB.at (i := 5) rfl, hB.at (i := 7) rfl⟩
  rcases h with h | ⟨h, h2⟩ | ⟨h, h2, h3⟩
  · have h' : (100 : Int) < (n : Int) := by omega
    go_enter Try.func8, Try.ntmps8
    go_wp2_with (go_at_call 9; refine (alive3_any _).mono ?_; rintro e W1 ⟨rfl, hb⟩; obtain ⟨x5, x7⟩ := HA _ hb)
    go_ret
    exact ⟨rfl, ab_trans (ab_alloc (Below.refl _ _) _) hb⟩
  · have h' : decide ((100 : Int) < (n : Int)) = false := decide_eq_false (by omega)
    have h2' : (500 : Int) < (n2 : Int) := by omega
    go_enter Try.func8, Try.ntmps8
    go_wp2_with (go_at_call 9; refine (alive3_any _).mono ?_; rintro e W1 ⟨rfl, hb⟩; obtain ⟨x5, x7⟩ := HA _ hb)
    go_ret
    exact ⟨rfl, ab_trans (ab_alloc (Below.refl _ _) _) hb⟩
  · have h' : decide ((100 : Int) < (n : Int)) = false := decide_eq_false (by omega)
    have h2' : decide ((500 : Int) < (n2 : Int)) = false := decide_eq_false (by omega)
    have h3' : (500 : Int) < (n3 : Int) := by omega
    go_enter Try.func8, Try.ntmps8
    go_wp2_with (go_at_call 9; refine (alive3_any _).mono ?_; rintro e W1 ⟨rfl, hb⟩; obtain ⟨x5, x7⟩ := HA _ hb)
    go_ret
    exact ⟨rfl, ab_trans (ab_alloc (Below.refl _ _) _) hb⟩

set_option maxRecDepth 100000 in
set_option maxHeartbeats 2000000 in
theorem covers_small (s0 s1 t key s4 : Int) (q : Option Addr) (g off n cap : Nat) (l : List Int) (sh : Int) (q2 : Option Addr) (g2 off2 n2 cap2 : Nat) (pls : List (Int × Int)) (q3 : Option Addr) (g3 off3 n3 cap3 : Nat) (rs : List Int) (w : World) (hn : l.length = n) (hb : n ≤ 100) (hp : 0 < n → q = some ⟨g, off, none⟩) (hg : 0 < n → g < w.heap.size) (hr : IRow w g off l)
    (t0 : -9223372036854775808 ≤ t) (t1 : t ≤ 9223372036854775807) (k0 : -9223372036854775808 ≤ key) (k1 : key ≤ 9223372036854775807) (h1 : sh ≤ 9223372036854775807) (hl : ∀ (j : Nat) (r : Int), l[j]? = some r → r ≤ 9223372036854775807)
    (hn2 : pls.length = n2) (hb2 : n2 ≤ 500) (hp2 : 0 < n2 → q2 = some ⟨g2, off2, none⟩) (hg2 : 0 < n2 → g2 < w.heap.size) (hr2 : Row2 w g2 off2 pls) (hz2 : q2 = none → n2 = 0) (hf : Fit2 pls)
    (hn3 : rs.length = n3) (hb3 : n3 ≤ 500) (hp3 : 0 < n3 → q3 = some ⟨g3, off3, none⟩) (hg3 : 0 < n3 → g3 < w.heap.size) (hr3 : IRow w g3 off3 rs) :
    Calls Try.prog 8 #[.agg (Askd s0 s1 t key s4 q n cap sh q2 n2 cap2), .slice q3 n3 cap3] w fun e w' => e = .returned (.bool true) ∧ Below w.heap.size w w' := by
  have h' : decide ((100 : Int) < (n : Int)) = false := decide_eq_false (by omega)
  have h2' : decide ((500 : Int) < (n2 : Int)) = false := decide_eq_false (by omega)
  have h3' : decide ((500 : Int) < (n3 : Int)) = false := decide_eq_false (by omega)
  go_enter Try.func8, Try.ntmps8
  go_upto_region 1 with fail
  obtain ⟨A, hE, hO, hw⟩ := blk1 w (Askd s0 s1 t key s4 q n cap sh q2 n2 cap2) 35
  rw [hE]
  clear hE
  go_upto_region 3 with (go_at_call 9; refine (alive3_any _).mono ?_; rintro e W1 ⟨rfl, b1⟩)
  have hO1 := hO.keep b1
  have hw1 := ab_trans hw b1
  have hr1 := irow_keep hr (by omega) hw1
  have hg1 : 0 < n → g < W1.heap.size := fun h => Nat.lt_of_lt_of_le (hg h) hw1.size
  have hr21 := row2_keep hr2 (by omega) hw1
  have hg21 : 0 < n2 → g2 < W1.heap.size := fun h => Nat.lt_of_lt_of_le (hg2 h) hw1.size
  have hr31 := irow_keep hr3 (by omega) hw1
  have hg31 : 0 < n3 → g3 < W1.heap.size := fun h => Nat.lt_of_lt_of_le (hg3 h) hw1.size
  have c5 : W1.cell? ⟨w.heap.size, 5, none⟩ = some (.slice q n cap) := hO1.at (i := 5) rfl
  have c7 : W1.cell? ⟨w.heap.size, 7, none⟩ = some (.slice q2 n2 cap2) := hO1.at (i := 7) rfl
  clear hO hw b1 hr hg hr2 hg2 hr3 hg3
  go_upto_region 5 with fail
  have hOl := hO1.lt
  go_upto_region 6 with (first
    | (refine bs0P rfl rfl (by simp only [List.map_toArray, List.map_nil]) ?_; intro W2 hown2 b2; have c7' := keep_cell b2 c7 hOl)
    | (at_builtin; refine app_own W1 rfl rfl Try.underlying33 infoPlc rfl (by omega) rfl hown2 (flat2 pls) rfl hz2 (by rw [flat2_len, hn2]) (row2_src (row2_keep hr21 (by omega) b2) hn2 hp2) (flat2_one pls) (by unfold maxLen; omega) (by omega) b2 ?_; intro v3 W3 hown3 hnil3 hb13 hgr3; rw [Nat.zero_add, List.nil_append] at hown3; obtain ⟨hlen3, qh, gh, ch, rfl, hqh, hgh, -, -, hch, -, hrh, hvh⟩ := own_row2 hown3; obtain ⟨rfl, hbh, hgh'⟩ := hvh (fun e => by have := (hnil3.1 e).1; cases this)))
  clear hown2 b2 c7' hnil3 hgr3 hqh hgh hvh hlen3 hrh c5 c7
  go_upto_region 7 with (refine mk_plc rfl rfl rfl rfl (by omega) ?_; intro W4 hown4 b4)
  have hown34 := own_keep hown3 b4
  have hb14 := ab_trans hb13 b4
  have hown4' := own_less hown4 hb13.size
  have hne : gh ≠ W3.heap.size := by omega
  clear hown3 b4 hb13 hown4
  have hlg : W1.heap.size ≤ W3.heap.size := by omega
  generalize W3.heap.size = gl at *
  go_wp2_with fail
  go_loopw [36] (fun iv wr => ∃ (i : Nat) (H : List (Int × Int)), i ≤ n2 ∧ iv = .int .i64 (i : Int) ∧ H.length = n2 ∧ Rises pls H ∧ Fit2 H ∧ wr.ownsRow W1.heap.size 23 2 (.slice (some ⟨gh, 0, none⟩) n2 ch) n2 (flat2 H) ∧ wr.ownsRow W1.heap.size 23 2 (.slice (some ⟨gl, 0, none⟩) n2 n2) n2 (flat2 (lst n2 i)) ∧ Below W1.heap.size W1 wr) (fun iv _ => n2 - (intOf iv).toNat)
  case atStart => exact ⟨0, pls, by omega, rfl, hn2, rises_refl pls, hf, hown34, hown4', hb14⟩
  case round =>
    clear hown34 hown4' hb14
    obtain ⟨i, H, hi, rfl, hHn, hRi, hFi, hoh, hol, hbw⟩ := hrel
    by_cases c : i = n2
    · subst c
      rw [lst_end] at hol
      have HM : Hid (covL pls (idL t key sh l) = true → covL H (idL t key sh l) = true) := fun h => covL_mono hRi (by omega) h
      have HE := covL_least t key sh l i t0 t1 k0
      have HN := covL_nil H t key sh
      obtain ⟨-, _, _, _, e9, hq9, hg9, -, -, -, -, hrH, -⟩ := own_row2 hoh
      cases e9
      obtain ⟨hl10, _, _, _, e10, hq10, hg10, -, -, -, -, hrL, -⟩ := own_row2 hol
      cases e10
      have gH : 0 < i → gh < wr.heap.size := fun h => by cases hq9 h; exact hg9 h
      have gL : 0 < i → gl < wr.heap.size := fun h => by cases hq10 h; exact hg10 h
      have hrH' : Row2 wr gh 0 H := fun j x hx => by
        have := (List.getElem?_eq_some_iff.1 hx).1
        cases hq9 (by omega); exact hrH j x hx
      have hrL' : Row2 wr gl 0 (List.replicate i (-9223372036854775808, -9223372036854775808)) := fun j x hx => by
        have := (List.getElem?_eq_some_iff.1 hx).1
        cases hq10 (by omega); exact hrL j x hx
      have hrw := irow_keep hr1 (by omega) hbw
      have hgw : 0 < n → g < wr.heap.size := fun h => Nat.lt_of_lt_of_le (hg1 h) hbw.size
      have hrw2 := row2_keep hr21 (by omega) hbw
      have hgw2 : 0 < i → g2 < wr.heap.size := fun h => Nat.lt_of_lt_of_le (hg21 h) hbw.size
      have hOw := hO1.keep hbw
      have hww := ab_trans hw1 hbw
      have hlt := hOw.lt
      have o0 := fun (W : World) (h : Below wr.heap.size wr W) => (h.cell (p := ⟨w.heap.size, 0, none⟩) hlt).trans (hOw.at (i := 0) (v := .int .i64 s0) rfl)
      have o1 := fun (W : World) (h : Below wr.heap.size wr W) => (h.cell (p := ⟨w.heap.size, 1, none⟩) hlt).trans (hOw.at (i := 1) (v := .int .i64 s1) rfl)
      have o2 := fun (W : World) (h : Below wr.heap.size wr W) => (h.cell (p := ⟨w.heap.size, 2, none⟩) hlt).trans (hOw.at (i := 2) (v := .int .i64 t) rfl)
      have o3 := fun (W : World) (h : Below wr.heap.size wr W) => (h.cell (p := ⟨w.heap.size, 3, none⟩) hlt).trans (hOw.at (i := 3) (v := .int .i64 key) rfl)
      have o4 := fun (W : World) (h : Below wr.heap.size wr W) => (h.cell (p := ⟨w.heap.size, 4, none⟩) hlt).trans (hOw.at (i := 4) (v := .int .i64 s4) rfl)
      have o5 := fun (W : World) (h : Below wr.heap.size wr W) => (h.cell (p := ⟨w.heap.size, 5, none⟩) hlt).trans (hOw.at (i := 5) (v := .slice q n cap) rfl)
      have o6 := fun (W : World) (h : Below wr.heap.size wr W) => (h.cell (p := ⟨w.heap.size, 6, none⟩) hlt).trans (hOw.at (i := 6) (v := .int .i64 sh) rfl)
      have o7 := fun (W : World) (h : Below wr.heap.size wr W) => (h.cell (p := ⟨w.heap.size, 7, none⟩) hlt).trans (hOw.at (i := 7) (v := .slice q2 i cap2) rfl)
      have hbv : Below wr.heap.size wr wr := Below.refl _ _
      have HC1 : Hid (∀ V, Below wr.heap.size wr V → Calls Try.prog 23 #[Opv s0 s1 t key s4, .slice q n cap, .int .i64 sh, .slice q2 i cap2] V fun e w' => e = .returned (.bool (covL pls (idL t key sh l))) ∧ Below V.heap.size V w') := fun V hbv =>
        covered_any s0 s1 t key s4 q g off n cap l sh q2 g2 off2 i cap2 pls V hn (by omega) hp (fun h => Nat.lt_of_lt_of_le (hgw h) hbv.size) (irow_keep hrw (by omega) hbv) t0 t1 k0 k1 h1 hl hn2 hp2 (fun h => Nat.lt_of_lt_of_le (hgw2 h) hbv.size) (row2_keep hrw2 (by omega) hbv)
      have HC2 : Hid (∀ V, Below wr.heap.size wr V → Calls Try.prog 23 #[Opv s0 s1 t key s4, .slice q n cap, .int .i64 sh, .slice (some ⟨gh, 0, none⟩) i ch] V fun e w' => e = .returned (.bool (covL H (idL t key sh l))) ∧ Below V.heap.size V w') := fun V hbv =>
        covered_any s0 s1 t key s4 q g off n cap l sh _ gh 0 i ch H V hn (by omega) hp (fun h => Nat.lt_of_lt_of_le (hgw h) hbv.size) (irow_keep hrw (by omega) hbv) t0 t1 k0 k1 h1 hl hHn (fun _ => rfl) (fun h => Nat.lt_of_lt_of_le (gH h) hbv.size) (row2_keep hrH' (by omega) hbv)
      have HC3 : Hid (∀ V, Below wr.heap.size wr V → Calls Try.prog 23 #[Opv s0 s1 t key s4, .slice q n cap, .int .i64 sh, .slice (some ⟨gl, 0, none⟩) i i] V fun e w' => e = .returned (.bool false) ∧ Below V.heap.size V w') := fun V hbv => by
        rw [← HE]
        exact covered_any s0 s1 t key s4 q g off n cap l sh _ gl 0 i i (List.replicate i (-9223372036854775808, -9223372036854775808)) V hn (by omega) hp (fun h => Nat.lt_of_lt_of_le (hgw h) hbv.size) (irow_keep hrw (by omega) hbv) t0 t1 k0 k1 h1 hl hl10 (fun _ => rfl) (fun h => Nat.lt_of_lt_of_le (gL h) hbv.size) (row2_keep hrL' (by omega) hbv)
      have HC4 : Hid (∀ V, Below wr.heap.size wr V → Calls Try.prog 23 #[Opv s0 s1 t key s4, .slice none 0 0, .int .i64 sh, .slice (some ⟨gh, 0, none⟩) i ch] V fun e w' => e = .returned (.bool false) ∧ Below V.heap.size V w') := fun V hbv => by
        rw [← HN]
        exact covered_any s0 s1 t key s4 none 0 0 0 0 [] sh _ gh 0 i ch H V rfl (by omega) (fun h => absurd h (by omega)) (fun h => absurd h (by omega)) (fun j x hx => by simp at hx) t0 t1 k0 k1 h1 (fun j x hx => by simp at hx) hHn (fun _ => rfl) (fun h => Nat.lt_of_lt_of_le (gH h) hbv.size) (row2_keep hrH' (by omega) hbv)
      clear hoh hol hrH hrL hq9 hg9 hq10 hg10 hr1 hg1 hr21 hg21 hr31 hg31 hO1 hw1 hOw hRi hFi hf hbw hp3 hrw hrw2 hrH' hrL' gH gL hgw hgw2 HE HN hl hl10 hp hp2 hHn hlt
      cases hX : covL pls (idL t key sh l)
      · rw [hX] at HC1
        clear HM HC2
        go_wp2_with fail
        refine (HC1.out _ hbv).mono ?_
        rintro e V ⟨rfl, bn⟩
        have hbv := ab_trans hbv bn
        clear bn
        go_wp2_with fail
        refine (HC3.out _ hbv).mono ?_
        rintro e V ⟨rfl, bn⟩
        have hbv := ab_trans hbv bn
        clear bn
        go_wp2_with fail
        refine (HC4.out _ hbv).mono ?_
        rintro e V ⟨rfl, bn⟩
        have hbv := ab_trans hbv bn
        clear bn
        go_wp2_with fail
        go_ret
        exact ⟨rfl, ab_trans hww hbv⟩
      · rw [HM.out hX] at HC2
        rw [hX] at HC1
        clear HM
        go_wp2_with fail
        refine (HC1.out _ hbv).mono ?_
        rintro e V ⟨rfl, bn⟩
        have hbv := ab_trans hbv bn
        clear bn
        go_wp2_with fail
        refine (HC2.out _ hbv).mono ?_
        rintro e V ⟨rfl, bn⟩
        have hbv := ab_trans hbv bn
        clear bn
        go_wp2_with fail
        refine (HC3.out _ hbv).mono ?_
        rintro e V ⟨rfl, bn⟩
        have hbv := ab_trans hbv bn
        clear bn
        go_wp2_with fail
        refine (HC4.out _ hbv).mono ?_
        rintro e V ⟨rfl, bn⟩
        have hbv := ab_trans hbv bn
        clear bn
        go_wp2_with fail
        go_ret
        exact ⟨rfl, ab_trans hww hbv⟩
    · have hin : i < n2 := by omega
      have hii : (i : Int) < (n2 : Int) := by omega
      go_upto_region 11 with (first
        | (go_at_call 15; refine (least_any _).mono ?_; rintro e W5 ⟨rfl, b5⟩; have hol5 := own_keep hol b5; have hoh5 := own_keep hoh b5; have hbw5 := ab_trans hbw b5)
        | (refine st_pl rfl rfl hol5 hin rfl rfl ?_; intro W6 hol6 C6; rw [lst_next hin] at hol6; have hoh6 := own_chgP hoh5 C6 hne; have hbw6 := ab_chg hbw5 C6 hlg))
      clear hol5 hoh5 hbw5 hol hoh hbw b5 C6
      by_cases d : i < n3
      · have hi3 : (i : Int) < (n3 : Int) := by omega
        obtain ⟨r, hrr⟩ : ∃ r, rs[i]? = some r := ⟨rs[i], List.getElem?_eq_getElem (by omega)⟩
        obtain rfl := hp3 (by omega)
        have cr := hr31 i r hrr
        have hgr := hg31 (by omega)
        obtain ⟨R, hR, hR2⟩ := rise_num r
        go_wp2_with fail
        go_loopw [8] (fun kv wr => ∃ (k : Nat) (H : List (Int × Int)), k ≤ R ∧ kv = .int .i64 (k : Int) ∧ H.length = n2 ∧ Rises pls H ∧ Fit2 H ∧ wr.ownsRow W1.heap.size 23 2 (.slice (some ⟨gh, 0, none⟩) n2 ch) n2 (flat2 H) ∧ wr.ownsRow W1.heap.size 23 2 (.slice (some ⟨gl, 0, none⟩) n2 n2) n2 (flat2 (lst n2 (i + 1))) ∧ Below W1.heap.size W1 wr) (fun kv _ => R - (intOf kv).toNat)
        case atStart => exact ⟨0, H, by omega, rfl, hHn, hRi, hFi, hoh6, hol6, hbw6⟩
        case round =>
          clear hoh6 hol6 hbw6 hHn hRi hFi
          clear H
          obtain ⟨k, H, hk, rfl, hHn, hRi, hFi, hoh, hol, hbw⟩ := hrel
          have cr' := keep_cell hbw cr hgr
          by_cases e : k = R
          · subst e
            go_wp2_with fail
            go_roundw
            case rel => exact ⟨i + 1, H, by omega, by go_num, hHn, hRi, hFi, hoh, hol, hbw⟩
            case measure => simp [intOf]; omega
          · have hkR : (k : Int) < (R : Int) := by omega
            obtain ⟨x, hx⟩ : ∃ x, H[i]? = some x := ⟨H[i], List.getElem?_eq_getElem (by omega)⟩
            obtain ⟨-, _, _, _, e9, hq9, -, -, -, -, -, hrH, -⟩ := own_row2 hoh
            cases e9
            cases hq9 (by omega)
            obtain ⟨y0, y1⟩ := hrH i x hx
            have hfx := hFi i x hx
            have HR9 := rises_set hRi hx hf
            have HF9 : Fit2 (H.set i (afW x.1 x.2, afK x.1 x.2)) := fit_set hFi (af_fit hfx)
            have HL9 : (H.set i (afW x.1 x.2, afK x.1 x.2)).length = n2 := by rw [List.length_set, hHn]
            rw [Nat.zero_add] at y0 y1
            obtain ⟨xa, xk⟩ := x
            dsimp only at y0 y1 hfx HR9 HF9 HL9
            clear hrH hq9 hRi hFi hx
            go_wp2_with (first
              | (go_at_call 10; refine (after_any xa xk _ hfx.1.1 hfx.1.2 hfx.2.1 hfx.2.2).mono ?_; rintro e W7 ⟨rfl, b7⟩; have hol7 := own_keep hol b7; have hoh7 := own_keep hoh b7; have hbw7 := ab_trans hbw b7)
              | (refine st_pl rfl rfl hoh7 hin rfl rfl ?_; intro W8 hoh8 C8; have hol8 := own_chgP hol7 C8 (Ne.symm hne); have hbw8 := ab_chg hbw7 C8 hbh))
            go_roundw
            case rel => exact ⟨k + 1, _, by omega, by go_num, HL9, HR9, HF9, hoh8, hol8, hbw8⟩
            case measure => simp [intOf]; omega
      · have hi3 : decide ((i : Int) < (n3 : Int)) = false := decide_eq_false (by omega)
        go_wp2_with fail
        go_roundw
        case rel => exact ⟨i + 1, H, by omega, by go_num, hHn, hRi, hFi, hoh6, hol6, hbw6⟩
        case measure => simp [intOf]; omega
end Go.Proofs.Ytffgndmcamedaaa
