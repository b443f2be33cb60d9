/-
  stream's Sample, Mark, Held, Places.
  sort.Search at stream.find's closure; find.
-/
import Derived.Test.YteffpgodookebaaGreatPk26
namespace Go.Proofs.YteffpgodookebaaGreat
open Go.RowKit
set_option linter.unusedVariables false
set_option maxRecDepth 100000

theorem info_op5 (o : Op5) : (Tryz.prog.info? 49).map (·.size) = some (opA o).size := by kernel_rfl
section
variable {ops : Array Oper} {rest : List Oper} {o : Oper} {a : Act} {w : World} {Q : Exit → Act → World → Prop}
/-- An operation into its box. -/
theorem st_op (hgd : o.guard = none) {x y : Operand} (ho : o.op = .store 49 x y) {b : Nat} {k0 k1 : Op5} (hB : Blk w b (opA k0) 49) (hx : a.eval x = .pointer (some ⟨b, 0, none⟩)) (hy : a.eval y = opV k1)
    (h : ∀ W', Blk W' b (opA k1) 49 → Chg b w W' → wpList Tryz.prog ops Q rest (a.put o.dst undef) W') : wpList Tryz.prog ops Q (o :: rest) a w :=
  st_blk hgd ho hB hx hy (info_op5 k1) rfl (by simp [opA, Value.oneCell']) h
end
theorem ret_op {x x' : Op5} {v : Value} (h : Hid (x = x')) : Ending.returned (.tuple #[.agg (opA x), v]) = .returned (.tuple #[opV x', v]) := by rw [h.out]; rfl
set_option maxHeartbeats 1000000 in
theorem ssample_any {B b : Nat} {vr vh vc : Value} {S : Sm} (t y v : Int) (w : World) (h : Sq w B b vr vh vc S) : Calls Tryz.prog 30 #[sptr b, .int .i64 t, .int .i64 y, .int .i64 v] w fun e w' => e = .returned (.tuple #[opV (sampO S t y v), errV (sampN S t)]) ∧ Below w.heap.size w w' := by
  obtain ⟨A, hE, hB, hw⟩ := blk1 w (opA zOp) 49
  obtain ⟨-, -, c2, c3, -, -, -, -, -, c9, -⟩ := h.cells A hw
  obtain ⟨q, cap, rfl⟩ := h.he.form
  have hA := h.keep hw
  unfold opA zOp at hE
  cases c : pas S t
  · by_cases d : S.hd ≤ (S.ho.length : Int)
    · have hN : sampN S t = 10 := by unfold sampN; rw [c, if_neg (by decide), if_pos d]
      have hO : sampO S t y v = zOp := by unfold sampO; rw [hN, if_neg (by decide)]
      rw [hN, hO]
      clear hN hO
      go_enter Tryz.func30, Tryz.ntmps30
      go_upto_region 5 with (go_at_call 69; refine (spast_any t _ hA).mono ?_; rintro e W ⟨rfl, rfl⟩; rw [c])
      go_quiet (fail)
      go_wp2_with (refine st_op rfl rfl (k1 := zOp) (hB.keep (ab_drewN (Below.refl _ _) _)) rfl rfl ?_; intro W5 hB5 C5)
      exact bodyPost_ret (results_c2 rfl _ _ _ 49 _ (0, 0) _ (Err 10) rfl rfl hB5 Tryz.underlying49 rfl (info_op5 zOp)) rfl ⟨rfl, ab_chg (ab_drewN hw _) C5 (Nat.le_refl _)⟩
    · have hN : sampN S t = 0 := by unfold sampN; rw [c, if_neg (by decide), if_neg d]
      have hO : sampO S t y v = ⟨S.nx, 1, t, y, v⟩ := by unfold sampO; rw [hN, if_pos rfl]
      rw [hN, hO]
      clear hN hO
      go_enter Tryz.func30, Tryz.ntmps30
      go_upto_region 5 with (go_at_call 69; refine (spast_any t _ hA).mono ?_; rintro e W ⟨rfl, rfl⟩; rw [c])
      go_quiet (fail)
      go_wp2_with (refine st_op rfl rfl (k1 := ⟨S.nx, 1, t, y, v⟩) (hB.keep (ab_drewN (Below.refl _ _) _)) rfl rfl ?_; intro W5 hB5 C5)
      exact bodyPost_ret (results_c2 rfl _ _ _ 49 _ (0, 0) _ .nilIface rfl rfl hB5 Tryz.underlying49 rfl (info_op5 ⟨S.nx, 1, t, y, v⟩)) rfl ⟨rfl, ab_chg (ab_drewN hw _) C5 (Nat.le_refl _)⟩
  · have hN : sampN S t = 8 := by unfold sampN; rw [c, if_pos rfl]
    have hO : sampO S t y v = zOp := by unfold sampO; rw [hN, if_neg (by decide)]
    rw [hN, hO]
    clear hN hO
    go_enter Tryz.func30, Tryz.ntmps30
    go_wp2_with (first
      | (go_at_call 69; refine (spast_any t _ hA).mono ?_; rintro e W ⟨rfl, rfl⟩; rw [c])
      | (refine st_op rfl rfl (k1 := zOp) hB rfl rfl ?_; intro W5 hB5 C5))
    exact bodyPost_ret (results_c2 rfl _ _ _ 49 _ (0, 0) _ (Err 8) rfl rfl hB5 Tryz.underlying49 rfl (info_op5 zOp)) rfl ⟨rfl, ab_chg hw C5 (Nat.le_refl _)⟩
set_option maxHeartbeats 1000000 in
theorem ssample_nil (t y v : Int) (w : World) : Calls Tryz.prog 30 #[.pointer none, .int .i64 t, .int .i64 y, .int .i64 v] w fun e w' => e = .returned (.tuple #[opV zOp, Err 2]) ∧ Below w.heap.size w w' := by
  obtain ⟨A, hE, hB, hw⟩ := blk1 w (opA zOp) 49
  unfold opA zOp at hE
  go_enter Tryz.func30, Tryz.ntmps30
  go_wp2_with (refine st_op rfl rfl (k1 := zOp) hB rfl rfl ?_; intro W5 hB5 C5)
  exact bodyPost_ret (results_c2 rfl _ _ _ 49 _ (0, 0) _ (Err 2) rfl rfl hB5 Tryz.underlying49 rfl (info_op5 zOp)) rfl ⟨rfl, ab_chg hw C5 (Nat.le_refl _)⟩
set_option maxHeartbeats 1000000 in
theorem smark_any {B b : Nat} {vr vh vc : Value} {S : Sm} (t : Int) (w : World) (h : Sq w B b vr vh vc S) : Calls Tryz.prog 31 #[sptr b, .int .i64 t] w fun e w' => e = .returned (.tuple #[opV (markO S t), errV (markN S t)]) ∧ Below w.heap.size w w' := by
  obtain ⟨A, hE, hB, hw⟩ := blk1 w (opA zOp) 49
  obtain ⟨-, -, -, c3, -, -, -, -, -, -, -⟩ := h.cells A hw
  have hA := h.keep hw
  unfold opA zOp at hE
  cases c : pas S t
  · have hN : markN S t = 0 := by unfold markN; rw [c, if_neg (by decide)]
    have hO : markO S t = ⟨S.nx, 2, t, 0, 0⟩ := by unfold markO; rw [hN, if_pos rfl]
    rw [hN, hO]
    clear hN hO
    go_enter Tryz.func31, Tryz.ntmps31
    go_wp2_with (first
      | (go_at_call 69; refine (spast_any t _ hA).mono ?_; rintro e W ⟨rfl, rfl⟩; rw [c])
      | (refine st_op rfl rfl (k1 := ⟨S.nx, 2, t, 0, 0⟩) hB rfl rfl ?_; intro W5 hB5 C5))
    exact bodyPost_ret (results_c2 rfl _ _ _ 49 _ (0, 0) _ .nilIface rfl rfl hB5 Tryz.underlying49 rfl (info_op5 ⟨S.nx, 2, t, 0, 0⟩)) rfl ⟨rfl, ab_chg hw C5 (Nat.le_refl _)⟩
  · have hN : markN S t = 9 := by unfold markN; rw [c, if_pos rfl]
    have hO : markO S t = zOp := by unfold markO; rw [hN, if_neg (by decide)]
    rw [hN, hO]
    clear hN hO
    go_enter Tryz.func31, Tryz.ntmps31
    go_wp2_with (first
      | (go_at_call 69; refine (spast_any t _ hA).mono ?_; rintro e W ⟨rfl, rfl⟩; rw [c])
      | (refine st_op rfl rfl (k1 := zOp) hB rfl rfl ?_; intro W5 hB5 C5))
    exact bodyPost_ret (results_c2 rfl _ _ _ 49 _ (0, 0) _ (Err 9) rfl rfl hB5 Tryz.underlying49 rfl (info_op5 zOp)) rfl ⟨rfl, ab_chg hw C5 (Nat.le_refl _)⟩
set_option maxHeartbeats 1000000 in
theorem smark_nil (t : Int) (w : World) : Calls Tryz.prog 31 #[.pointer none, .int .i64 t] w fun e w' => e = .returned (.tuple #[opV zOp, Err 2]) ∧ Below w.heap.size w w' := by
  obtain ⟨A, hE, hB, hw⟩ := blk1 w (opA zOp) 49
  unfold opA zOp at hE
  go_enter Tryz.func31, Tryz.ntmps31
  go_wp2_with (refine st_op rfl rfl (k1 := zOp) hB rfl rfl ?_; intro W5 hB5 C5)
  exact bodyPost_ret (results_c2 rfl _ _ _ 49 _ (0, 0) _ (Err 2) rfl rfl hB5 Tryz.underlying49 rfl (info_op5 zOp)) rfl ⟨rfl, ab_chg hw C5 (Nat.le_refl _)⟩
/-- Held, Places: what they answer is new memory. -/
theorem sheld_any {B b : Nat} {vr vh vc : Value} {S : Sm} (w : World) (h : Sq w B b vr vh vc S) : Calls Tryz.prog 34 #[sptr b] w fun e w' => ∃ v, e = .returned v ∧ EO E5 49 w' w.heap.size v S.ho ∧ Below w.heap.size w w' := by
  obtain ⟨-, -, -, -, -, -, -, -, -, c9, -⟩ := h.cells w (Below.refl _ _)
  have hl := h.ok.len
  have hR : Hid (ER E5 w vh S.ho) := h.he.er
  obtain ⟨q, cap, rfl⟩ := h.he.form
  clear h
  go_enter Tryz.func34, Tryz.ntmps34
  go_wp2_with (at_builtin; refine app_e w rfl rfl Tryz.underlying42 infoOp5 rfl (l := []) rfl (eo_nil E5 _ _ _) rfl hR.out (by simp; omega) (by simp; omega) (Below.refl _ _) ?_; intro v' W' hown hb hg)
  go_ret
  exact ⟨_, rfl, hown, hb⟩
theorem sheld_nil (w : World) : Calls Tryz.prog 34 #[.pointer none] w fun e w' => e = .returned (.slice none 0 0) ∧ w' = w := by
  go_enter Tryz.func34, Tryz.ntmps34
  go_wp2_with fail
  go_ret
  exact ⟨rfl, rfl⟩
theorem splaces_any {B b : Nat} {vr vh vc : Value} {S : Sm} (w : World) (h : Sq w B b vr vh vc S) : Calls Tryz.prog 58 #[sptr b] w fun e w' => ∃ v, e = .returned v ∧ EO E2 89 w' w.heap.size v S.ct ∧ Below w.heap.size w w' := by
  obtain ⟨-, -, -, -, -, -, -, -, -, -, c10⟩ := h.cells w (Below.refl _ _)
  have hl : S.ct.length ≤ 12 := by
    have h1 := h.ok.cl
    have h2 := h.ok.lan
    omega
  have hR : Hid (ER E2 w vc S.ct) := h.ce.er
  obtain ⟨q, cap, rfl⟩ := h.ce.form
  clear h
  go_enter Tryz.func58, Tryz.ntmps58
  go_wp2_with (at_builtin; refine app_e w rfl rfl Tryz.underlying41 infoPl2 rfl (l := []) rfl (eo_nil E2 _ _ _) rfl hR.out (by simp; omega) (by simp; omega) (Below.refl _ _) ?_; intro v' W' hown hb hg)
  go_ret
  exact ⟨_, rfl, hown, hb⟩
theorem splaces_nil (w : World) : Calls Tryz.prog 58 #[.pointer none] w fun e w' => e = .returned (.slice none 0 0) ∧ w' = w := by
  go_enter Tryz.func58, Tryz.ntmps58
  go_wp2_with fail
  go_ret
  exact ⟨rfl, rfl⟩
theorem sclone_nil (w : World) : Calls Tryz.prog 68 #[.pointer none] w fun e w' => e = .returned (.pointer none) ∧ w' = w := by
  go_enter Tryz.func68, Tryz.ntmps68
  go_wp2_with fail
  go_ret
  exact ⟨rfl, rfl⟩
end Go.Proofs.YteffpgodookebaaGreat
namespace Go.Proofs.YteffpgodookebaaGreat
open Go.RowKit
set_option linter.unusedVariables false
set_option maxRecDepth 100000

/-- The function value that find hands over. -/
abbrev findV (b c : Nat) : Value := .func (.func 158) #[] #[.pointer (some ⟨b, 0, none⟩), .pointer (some ⟨c, 0, none⟩)]
set_option maxHeartbeats 1000000 in
theorem sfind1_any (i : Nat) (b c : Nat) (q : Option Addr) (g off n cap : Nat) (x : Int) (sq : Int) (w : World) (hb : w.cell? ⟨b, 0, none⟩ = some (.slice q n cap)) (hc : w.cell? ⟨c, 0, none⟩ = some (.int .i64 sq)) (hi : i < n) (hq : q = some ⟨g, off, none⟩) (hx : w.cell? ⟨g, off + i * 5, none⟩ = some (.int .i64 x)) :
    Calls Tryz.prog 158 #[.int .i64 (i : Int), .pointer (some ⟨b, 0, none⟩), .pointer (some ⟨c, 0, none⟩)] w fun e w' => e = .returned (.bool (decide (sq ≤ x))) ∧ ∃ m, w' = w.drewN m := by
  subst hq
  have hii : (i : Int) < (n : Int) := by omega
  go_enter Tryz.func158, Tryz.ntmps158
  go_upto_region 1 with fail
  go_quiet (fail)
  go_wp2_with fail
  go_ret
  exact ⟨rfl, _, rfl⟩
/-- Where the operations begin whose numbers aren't below a number. -/
structure FndP (l : List Op5) (sq : Int) (i : Nat) : Prop where
  le : i ≤ l.length
  lo : ∀ j o, l[j]? = some o → j < i → o.s < sq
  hi : ∀ j o, l[j]? = some o → i ≤ j → sq ≤ o.s
set_option maxHeartbeats 2000000 in
theorem ssearch_any (l : List Op5) (sq : Int) (b c : Nat) (q : Option Addr) (g off cap : Nat) (w : World) (hl : l.length ≤ 1000000) (hb : w.cell? ⟨b, 0, none⟩ = some (.slice q l.length cap)) (hc : w.cell? ⟨c, 0, none⟩ = some (.int .i64 sq)) (hq : 0 < l.length → q = some ⟨g, off, none⟩) (hr : ∀ j o, l[j]? = some o → w.cell? ⟨g, off + j * 5, none⟩ = some (.int .i64 o.s)) (hs : l.Pairwise fun a b => a.s < b.s) :
    Calls Tryz.prog 157 #[.int .i64 (l.length : Int), findV b c] w fun e w' => ∃ i : Nat, e = .returned (.int .i64 (i : Int)) ∧ FndP l sq i ∧ ∃ m, w' = w.drewN m := by
  generalize hn : l.length = n at *
  have hmono : ∀ (j k : Nat) (o u : Op5), l[j]? = some o → l[k]? = some u → j < k → o.s < u.s := fun j k o u hj hk hjk => by
    obtain ⟨h1, e1⟩ := List.getElem?_eq_some_iff.1 hj
    obtain ⟨h2, e2⟩ := List.getElem?_eq_some_iff.1 hk
    rw [← e1, ← e2]
    exact List.pairwise_iff_getElem.1 hs j k h1 h2 hjk
  go_enter Tryz.func157, Tryz.ntmps157
  go_wp2_with fail
  go_loopw [5, 6] (fun x y wr => ∃ i j : Nat, i ≤ j ∧ j ≤ n ∧ x = .int .i64 (i : Int) ∧ y = .int .i64 (j : Int) ∧ (∀ k o, l[k]? = some o → k < i → o.s < sq) ∧ (∀ k o, l[k]? = some o → j ≤ k → sq ≤ o.s) ∧ ∃ m, wr = w.drewN m) (fun x y _ => (intOf y).toNat - (intOf x).toNat)
  case atStart => exact ⟨0, n, by omega, Nat.le_refl _, rfl, rfl, fun k o _ h => absurd h (by omega), fun k o hk h => absurd (List.getElem?_eq_some_iff.1 hk).1 (by omega), 0, rfl⟩
  case round =>
    obtain ⟨i, j, hij, hj, rfl, rfl, h1, h2, m, rfl⟩ := hrel
    by_cases c0 : i = j
    · subst c0
      have HF : Hid (FndP l sq i) := ⟨by omega, h1, h2⟩
      clear h1 h2 hr hmono
      go_wp2_with fail
      go_ret
      exact ⟨i, rfl, HF.out, m, rfl⟩
    · have hlt : (i : Int) < (j : Int) := by omega
      obtain ⟨h, hh⟩ : ∃ h, h = (i + j) / 2 := ⟨_, rfl⟩
      have hhi : i ≤ h := by omega
      have hhj : h < j := by omega
      obtain ⟨o, ho⟩ : ∃ o, l[h]? = some o := ⟨l[h], List.getElem?_eq_getElem (by omega)⟩
      have cx : (w.drewN m).cell? ⟨g, off + h * 5, none⟩ = some (.int .i64 o.s) := hr h o ho
      have cb : (w.drewN m).cell? ⟨b, 0, none⟩ = some (.slice q n cap) := hb
      have cc : (w.drewN m).cell? ⟨c, 0, none⟩ = some (.int .i64 sq) := hc
      have HDV : Hid (((i : Int) + (j : Int)) / 2 = (h : Int)) := by show _ = _; omega
      have hsh : IntKind.u64.wrap (((i : Int) + (j : Int)) / 2) = (h : Int) := by simp [IntKind.wrap, IntKind.signed, IntKind.bits] <;> omega
      cases hd : decide (sq ≤ o.s)
      · have hlo : o.s < sq := by have := of_decide_eq_false hd; omega
        have H1 : Hid (∀ k o, l[k]? = some o → k < h + 1 → o.s < sq) := fun k u hk hkh => by
          rcases Nat.lt_or_ge k h with c1 | c1
          · have := hmono k h u o hk ho c1; omega
          · obtain rfl : k = h := by omega
            rw [ho] at hk; cases hk; exact hlo
        have H2 : Hid (∀ k o, l[k]? = some o → j ≤ k → sq ≤ o.s) := h2
        clear h1 h2 hr hmono
        go_wp2_with fail
        rw [HDV.out]
        refine (sfind1_any h b c q g off n cap o.s sq _ cb cc (by omega) (hq (by omega)) cx).mono ?_
        rintro e W ⟨rfl, m2, rfl⟩
        rw [hd]
        go_wp2_with fail
        go_roundw
        case rel => exact ⟨h + 1, j, by omega, hj, by go_num, rfl, H1.out, H2.out, m + m2, rfl⟩
        case measure => simp [intOf]; omega
      · have hlo : sq ≤ o.s := of_decide_eq_true hd
        have H1 : Hid (∀ k o, l[k]? = some o → k < i → o.s < sq) := h1
        have H2 : Hid (∀ k o, l[k]? = some o → h ≤ k → sq ≤ o.s) := fun k u hk hkh => by
          rcases Nat.lt_or_ge h k with c1 | c1
          · have := hmono h k o u ho hk c1; omega
          · obtain rfl : k = h := by omega
            rw [ho] at hk; cases hk; exact hlo
        clear h1 h2 hr hmono
        go_wp2_with fail
        rw [HDV.out]
        refine (sfind1_any h b c q g off n cap o.s sq _ cb cc (by omega) (hq (by omega)) cx).mono ?_
        rintro e W ⟨rfl, m2, rfl⟩
        rw [hd]
        go_wp2_with fail
        go_roundw
        case rel => exact ⟨i, h, by omega, by omega, rfl, by rw [HDV.out], H1.out, H2.out, m + m2, rfl⟩
        case measure => simp [intOf]; omega
set_option maxHeartbeats 1000000 in
theorem sfind_any (v : Value) (l : List Op5) (sq : Int) (w : World) (hv : ER E5 w v l) (hl : l.length ≤ 1000000) (hs : l.Pairwise fun a b => a.s < b.s) :
    Calls Tryz.prog 139 #[v, .int .i64 sq] w fun e w' => ∃ i : Nat, e = .returned (.int .i64 (i : Int)) ∧ FndP l sq i ∧ Below w.heap.size w w' := by
  obtain ⟨q, cap, g, off, rfl, hc, hm, hp, hr⟩ := hv.at
  obtain ⟨A, hE, hB1, hB2, hw⟩ := blk2 w #[.slice q l.length cap] #[.int .i64 sq] 42 3
  have x1 := hB1.at (i := 0) rfl
  have x2 := hB2.at (i := 0) rfl
  have HR : Hid (∀ j o, l[j]? = some o → A.cell? ⟨g, off + j * 5, none⟩ = some (.int .i64 o.s)) := fun j o hj => by
    have hpos : 0 < l.length := Nat.lt_of_le_of_lt (Nat.zero_le _) (List.getElem?_eq_some_iff.1 hj).1
    exact keep_cell hw (hr j o hj 0 _ rfl) (hp hpos).2
  have HP : Hid (0 < l.length → q = some ⟨g, off, none⟩) := fun h => (hp h).1
  clear hr hp
  go_enter Tryz.func139, Tryz.ntmps139
  go_wp2_with (go_at_call 157; refine (ssearch_any l sq _ _ q g off cap _ hl x1 x2 HP.out HR.out hs).mono ?_; rintro e W ⟨i, rfl, hF, m, rfl⟩)
  go_ret
  exact ⟨i, rfl, hF, ab_drewN hw _⟩
end Go.Proofs.YteffpgodookebaaGreat
