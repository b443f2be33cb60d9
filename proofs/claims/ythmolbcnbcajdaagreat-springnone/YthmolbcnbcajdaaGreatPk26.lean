/-
  stream's Sample, Mark, Held, Places.
  sort.Search at stream.find's closure; find.
  math/bits.Mul of 1 and a small number.
  stream.New: slices.Repeat of one place.
  stream.New.
  stream's Clone.
-/
import Derived.Test.YthmolbcnbcajdaaGreatPk25
import Derived.Test.YthmolbcnbcajdaaGreatPk06
import Derived.Test.YthmolbcnbcajdaaGreatPk22
namespace Go.Proofs.YthmolbcnbcajdaaGreat
open Go.RowKit
set_option linter.unusedVariables false
set_option maxRecDepth 100000

theorem info_op5 (o : Op5) : (Tryz.prog.info? 30).map (·.size) = some (opA o).size := by kernel_rfl
section
variable {ops : Array Oper} {rest : List Oper} {o : Oper} {a : Act} {w : World} {Q : Exit → Act → World → Prop}
/-- An operation into its box. -/
theorem st_op (hgd : o.guard = none) {x y : Operand} (ho : o.op = .store 30 x y) {b : Nat} {k0 k1 : Op5} (hB : Blk w b (opA k0) 30) (hx : a.eval x = .pointer (some ⟨b, 0, none⟩)) (hy : a.eval y = opV k1)
    (h : ∀ W', Blk W' b (opA k1) 30 → Chg b w W' → wpList Tryz.prog ops Q rest (a.put o.dst undef) W') : wpList Tryz.prog ops Q (o :: rest) a w :=
  st_blk hgd ho hB hx hy (info_op5 k1) rfl (by simp [opA, Value.oneCell']) h
end
theorem ret_op {x x' : Op5} {v : Value} (h : Hid (x = x')) : Ending.returned (.tuple #[.agg (opA x), v]) = .returned (.tuple #[opV x', v]) := by rw [h.out]; rfl
set_option maxHeartbeats 1000000 in
theorem ssample_any {B b : Nat} {vr vh vc : Value} {S : Sm} (t y v : Int) (w : World) (h : Sq w B b vr vh vc S) : Calls Tryz.prog 14 #[sptr b, .int .i64 t, .int .i64 y, .int .i64 v] w fun e w' => e = .returned (.tuple #[opV (sampO S t y v), errV (sampN S t)]) ∧ Below w.heap.size w w' := by
  obtain ⟨A, hE, hB, hw⟩ := blk1 w (opA zOp) 30
  obtain ⟨-, -, c2, c3, -, -, -, -, -, c9, -⟩ := h.cells A hw
  obtain ⟨q, cap, rfl⟩ := h.he.form
  have hA := h.keep hw
  unfold opA zOp at hE
  cases c : pas S t
  · by_cases d : S.hd ≤ (S.ho.length : Int)
    · have hN : sampN S t = 10 := by unfold sampN; rw [c, if_neg (by decide), if_pos d]
      have hO : sampO S t y v = zOp := by unfold sampO; rw [hN, if_neg (by decide)]
      rw [hN, hO]
      clear hN hO
      go_enter Tryz.func14, Tryz.ntmps14
      go_upto_region 5 with (go_at_call 29; refine (spast_any t _ hA).mono ?_; rintro e W ⟨rfl, rfl⟩; rw [c])
      go_quiet (fail)
      go_wp2_with (refine st_op rfl rfl (k1 := zOp) (hB.keep (ab_drewN (Below.refl _ _) _)) rfl rfl ?_; intro W5 hB5 C5)
      exact bodyPost_ret (results_c2 rfl _ _ _ 30 _ (0, 0) _ (Err 10) rfl rfl hB5 Tryz.underlying30 rfl (info_op5 zOp)) rfl ⟨rfl, ab_chg (ab_drewN hw _) C5 (Nat.le_refl _)⟩
    · have hN : sampN S t = 0 := by unfold sampN; rw [c, if_neg (by decide), if_neg d]
      have hO : sampO S t y v = ⟨S.nx, 1, t, y, v⟩ := by unfold sampO; rw [hN, if_pos rfl]
      rw [hN, hO]
      clear hN hO
      go_enter Tryz.func14, Tryz.ntmps14
      go_upto_region 5 with (go_at_call 29; refine (spast_any t _ hA).mono ?_; rintro e W ⟨rfl, rfl⟩; rw [c])
      go_quiet (fail)
      go_wp2_with (refine st_op rfl rfl (k1 := ⟨S.nx, 1, t, y, v⟩) (hB.keep (ab_drewN (Below.refl _ _) _)) rfl rfl ?_; intro W5 hB5 C5)
      exact bodyPost_ret (results_c2 rfl _ _ _ 30 _ (0, 0) _ .nilIface rfl rfl hB5 Tryz.underlying30 rfl (info_op5 ⟨S.nx, 1, t, y, v⟩)) rfl ⟨rfl, ab_chg (ab_drewN hw _) C5 (Nat.le_refl _)⟩
  · have hN : sampN S t = 8 := by unfold sampN; rw [c, if_pos rfl]
    have hO : sampO S t y v = zOp := by unfold sampO; rw [hN, if_neg (by decide)]
    rw [hN, hO]
    clear hN hO
    go_enter Tryz.func14, Tryz.ntmps14
    go_wp2_with (first
      | (go_at_call 29; refine (spast_any t _ hA).mono ?_; rintro e W ⟨rfl, rfl⟩; rw [c])
      | (refine st_op rfl rfl (k1 := zOp) hB rfl rfl ?_; intro W5 hB5 C5))
    exact bodyPost_ret (results_c2 rfl _ _ _ 30 _ (0, 0) _ (Err 8) rfl rfl hB5 Tryz.underlying30 rfl (info_op5 zOp)) rfl ⟨rfl, ab_chg hw C5 (Nat.le_refl _)⟩
set_option maxHeartbeats 1000000 in
theorem ssample_nil (t y v : Int) (w : World) : Calls Tryz.prog 14 #[.pointer none, .int .i64 t, .int .i64 y, .int .i64 v] w fun e w' => e = .returned (.tuple #[opV zOp, Err 2]) ∧ Below w.heap.size w w' := by
  obtain ⟨A, hE, hB, hw⟩ := blk1 w (opA zOp) 30
  unfold opA zOp at hE
  go_enter Tryz.func14, Tryz.ntmps14
  go_wp2_with (refine st_op rfl rfl (k1 := zOp) hB rfl rfl ?_; intro W5 hB5 C5)
  exact bodyPost_ret (results_c2 rfl _ _ _ 30 _ (0, 0) _ (Err 2) rfl rfl hB5 Tryz.underlying30 rfl (info_op5 zOp)) rfl ⟨rfl, ab_chg hw C5 (Nat.le_refl _)⟩
set_option maxHeartbeats 1000000 in
theorem smark_any {B b : Nat} {vr vh vc : Value} {S : Sm} (t : Int) (w : World) (h : Sq w B b vr vh vc S) : Calls Tryz.prog 16 #[sptr b, .int .i64 t] w fun e w' => e = .returned (.tuple #[opV (markO S t), errV (markN S t)]) ∧ Below w.heap.size w w' := by
  obtain ⟨A, hE, hB, hw⟩ := blk1 w (opA zOp) 30
  obtain ⟨-, -, -, c3, -, -, -, -, -, -, -⟩ := h.cells A hw
  have hA := h.keep hw
  unfold opA zOp at hE
  cases c : pas S t
  · have hN : markN S t = 0 := by unfold markN; rw [c, if_neg (by decide)]
    have hO : markO S t = ⟨S.nx, 2, t, 0, 0⟩ := by unfold markO; rw [hN, if_pos rfl]
    rw [hN, hO]
    clear hN hO
    go_enter Tryz.func16, Tryz.ntmps16
    go_wp2_with (first
      | (go_at_call 29; refine (spast_any t _ hA).mono ?_; rintro e W ⟨rfl, rfl⟩; rw [c])
      | (refine st_op rfl rfl (k1 := ⟨S.nx, 2, t, 0, 0⟩) hB rfl rfl ?_; intro W5 hB5 C5))
    exact bodyPost_ret (results_c2 rfl _ _ _ 30 _ (0, 0) _ .nilIface rfl rfl hB5 Tryz.underlying30 rfl (info_op5 ⟨S.nx, 2, t, 0, 0⟩)) rfl ⟨rfl, ab_chg hw C5 (Nat.le_refl _)⟩
  · have hN : markN S t = 9 := by unfold markN; rw [c, if_pos rfl]
    have hO : markO S t = zOp := by unfold markO; rw [hN, if_neg (by decide)]
    rw [hN, hO]
    clear hN hO
    go_enter Tryz.func16, Tryz.ntmps16
    go_wp2_with (first
      | (go_at_call 29; refine (spast_any t _ hA).mono ?_; rintro e W ⟨rfl, rfl⟩; rw [c])
      | (refine st_op rfl rfl (k1 := zOp) hB rfl rfl ?_; intro W5 hB5 C5))
    exact bodyPost_ret (results_c2 rfl _ _ _ 30 _ (0, 0) _ (Err 9) rfl rfl hB5 Tryz.underlying30 rfl (info_op5 zOp)) rfl ⟨rfl, ab_chg hw C5 (Nat.le_refl _)⟩
set_option maxHeartbeats 1000000 in
theorem smark_nil (t : Int) (w : World) : Calls Tryz.prog 16 #[.pointer none, .int .i64 t] w fun e w' => e = .returned (.tuple #[opV zOp, Err 2]) ∧ Below w.heap.size w w' := by
  obtain ⟨A, hE, hB, hw⟩ := blk1 w (opA zOp) 30
  unfold opA zOp at hE
  go_enter Tryz.func16, Tryz.ntmps16
  go_wp2_with (refine st_op rfl rfl (k1 := zOp) hB rfl rfl ?_; intro W5 hB5 C5)
  exact bodyPost_ret (results_c2 rfl _ _ _ 30 _ (0, 0) _ (Err 2) rfl rfl hB5 Tryz.underlying30 rfl (info_op5 zOp)) rfl ⟨rfl, ab_chg hw C5 (Nat.le_refl _)⟩
/-- Held, Places: what they answer is new memory. -/
theorem sheld_any {B b : Nat} {vr vh vc : Value} {S : Sm} (w : World) (h : Sq w B b vr vh vc S) : Calls Tryz.prog 13 #[sptr b] w fun e w' => ∃ v, e = .returned v ∧ EO E5 30 w' w.heap.size v S.ho ∧ Below w.heap.size w w' := by
  obtain ⟨-, -, -, -, -, -, -, -, -, c9, -⟩ := h.cells w (Below.refl _ _)
  have hl := h.ok.len
  have hR : Hid (ER E5 w vh S.ho) := h.he.er
  obtain ⟨q, cap, rfl⟩ := h.he.form
  clear h
  go_enter Tryz.func13, Tryz.ntmps13
  go_wp2_with (at_builtin; refine app_e w rfl rfl Tryz.underlying23 infoOp5 rfl (l := []) rfl (eo_nil E5 _ _ _) rfl hR.out (by simp; omega) (by simp; omega) (Below.refl _ _) ?_; intro v' W' hown hb hg)
  go_ret
  exact ⟨_, rfl, hown, hb⟩
theorem sheld_nil (w : World) : Calls Tryz.prog 13 #[.pointer none] w fun e w' => e = .returned (.slice none 0 0) ∧ w' = w := by
  go_enter Tryz.func13, Tryz.ntmps13
  go_wp2_with fail
  go_ret
  exact ⟨rfl, rfl⟩
theorem splaces_any {B b : Nat} {vr vh vc : Value} {S : Sm} (w : World) (h : Sq w B b vr vh vc S) : Calls Tryz.prog 26 #[sptr b] w fun e w' => ∃ v, e = .returned v ∧ EO E2 85 w' w.heap.size v S.ct ∧ Below w.heap.size w w' := by
  obtain ⟨-, -, -, -, -, -, -, -, -, -, c10⟩ := h.cells w (Below.refl _ _)
  have hl : S.ct.length ≤ 12 := by
    have h1 := h.ok.cl
    have h2 := h.ok.lan
    omega
  have hR : Hid (ER E2 w vc S.ct) := h.ce.er
  obtain ⟨q, cap, rfl⟩ := h.ce.form
  clear h
  go_enter Tryz.func26, Tryz.ntmps26
  go_wp2_with (at_builtin; refine app_e w rfl rfl Tryz.underlying61 infoPl2 rfl (l := []) rfl (eo_nil E2 _ _ _) rfl hR.out (by simp; omega) (by simp; omega) (Below.refl _ _) ?_; intro v' W' hown hb hg)
  go_ret
  exact ⟨_, rfl, hown, hb⟩
theorem splaces_nil (w : World) : Calls Tryz.prog 26 #[.pointer none] w fun e w' => e = .returned (.slice none 0 0) ∧ w' = w := by
  go_enter Tryz.func26, Tryz.ntmps26
  go_wp2_with fail
  go_ret
  exact ⟨rfl, rfl⟩
theorem sclone_nil (w : World) : Calls Tryz.prog 27 #[.pointer none] w fun e w' => e = .returned (.pointer none) ∧ w' = w := by
  go_enter Tryz.func27, Tryz.ntmps27
  go_wp2_with fail
  go_ret
  exact ⟨rfl, rfl⟩
end Go.Proofs.YthmolbcnbcajdaaGreat
namespace Go.Proofs.YthmolbcnbcajdaaGreat
open Go.RowKit
set_option linter.unusedVariables false
set_option maxRecDepth 100000

/-- The function value that find hands over. -/
abbrev findV (b c : Nat) : Value := .func (.func 98) #[] #[.pointer (some ⟨b, 0, none⟩), .pointer (some ⟨c, 0, none⟩)]
set_option maxHeartbeats 1000000 in
theorem sfind1_any (i : Nat) (b c : Nat) (q : Option Addr) (g off n cap : Nat) (x : Int) (sq : Int) (w : World) (hb : w.cell? ⟨b, 0, none⟩ = some (.slice q n cap)) (hc : w.cell? ⟨c, 0, none⟩ = some (.int .i64 sq)) (hi : i < n) (hq : q = some ⟨g, off, none⟩) (hx : w.cell? ⟨g, off + i * 5, none⟩ = some (.int .i64 x)) :
    Calls Tryz.prog 98 #[.int .i64 (i : Int), .pointer (some ⟨b, 0, none⟩), .pointer (some ⟨c, 0, none⟩)] w fun e w' => e = .returned (.bool (decide (sq ≤ x))) ∧ ∃ m, w' = w.drewN m := by
  subst hq
  have hii : (i : Int) < (n : Int) := by omega
  go_enter Tryz.func98, Tryz.ntmps98
  go_upto_region 1 with fail
  go_quiet (fail)
  go_wp2_with fail
  go_ret
  exact ⟨rfl, _, rfl⟩
/-- Where the operations begin whose numbers aren't below a number. -/
structure FndP (l : List Op5) (sq : Int) (i : Nat) : Prop where
  le : i ≤ l.length
  lo : ∀ j o, l[j]? = some o → j < i → o.s < sq
  hi : ∀ j o, l[j]? = some o → i ≤ j → sq ≤ o.s
set_option maxHeartbeats 2000000 in
theorem ssearch_any (l : List Op5) (sq : Int) (b c : Nat) (q : Option Addr) (g off cap : Nat) (w : World) (hl : l.length ≤ 1000000) (hb : w.cell? ⟨b, 0, none⟩ = some (.slice q l.length cap)) (hc : w.cell? ⟨c, 0, none⟩ = some (.int .i64 sq)) (hq : 0 < l.length → q = some ⟨g, off, none⟩) (hr : ∀ j o, l[j]? = some o → w.cell? ⟨g, off + j * 5, none⟩ = some (.int .i64 o.s)) (hs : l.Pairwise fun a b => a.s < b.s) :
    Calls Tryz.prog 97 #[.int .i64 (l.length : Int), findV b c] w fun e w' => ∃ i : Nat, e = .returned (.int .i64 (i : Int)) ∧ FndP l sq i ∧ ∃ m, w' = w.drewN m := by
  generalize hn : l.length = n at *
  have hmono : ∀ (j k : Nat) (o u : Op5), l[j]? = some o → l[k]? = some u → j < k → o.s < u.s := fun j k o u hj hk hjk => by
    obtain ⟨h1, e1⟩ := List.getElem?_eq_some_iff.1 hj
    obtain ⟨h2, e2⟩ := List.getElem?_eq_some_iff.1 hk
    rw [← e1, ← e2]
    exact List.pairwise_iff_getElem.1 hs j k h1 h2 hjk
  go_enter Tryz.func97, Tryz.ntmps97
  go_wp2_with fail
  go_loopw [5, 6] (fun x y wr => ∃ i j : Nat, i ≤ j ∧ j ≤ n ∧ x = .int .i64 (i : Int) ∧ y = .int .i64 (j : Int) ∧ (∀ k o, l[k]? = some o → k < i → o.s < sq) ∧ (∀ k o, l[k]? = some o → j ≤ k → sq ≤ o.s) ∧ ∃ m, wr = w.drewN m) (fun x y _ => (intOf y).toNat - (intOf x).toNat)
  case atStart => exact ⟨0, n, by omega, Nat.le_refl _, rfl, rfl, fun k o _ h => absurd h (by omega), fun k o hk h => absurd (List.getElem?_eq_some_iff.1 hk).1 (by omega), 0, rfl⟩
  case round =>
    obtain ⟨i, j, hij, hj, rfl, rfl, h1, h2, m, rfl⟩ := hrel
    by_cases c0 : i = j
    · subst c0
      have HF : Hid (FndP l sq i) := ⟨by omega, h1, h2⟩
      clear h1 h2 hr hmono
      go_wp2_with fail
      go_ret
      exact ⟨i, rfl, HF.out, m, rfl⟩
    · have hlt : (i : Int) < (j : Int) := by omega
      obtain ⟨h, hh⟩ : ∃ h, h = (i + j) / 2 := ⟨_, rfl⟩
      have hhi : i ≤ h := by omega
      have hhj : h < j := by omega
      obtain ⟨o, ho⟩ : ∃ o, l[h]? = some o := ⟨l[h], List.getElem?_eq_getElem (by omega)⟩
      have cx : (w.drewN m).cell? ⟨g, off + h * 5, none⟩ = some (.int .i64 o.s) := hr h o ho
      have cb : (w.drewN m).cell? ⟨b, 0, none⟩ = some (.slice q n cap) := hb
      have cc : (w.drewN m).cell? ⟨c, 0, none⟩ = some (.int .i64 sq) := hc
      have HDV : Hid (((i : Int) + (j : Int)) / 2 = (h : Int)) := by show _ = _; omega
      have hsh : IntKind.u64.wrap (((i : Int) + (j : Int)) / 2) = (h : Int) := by simp [IntKind.wrap, IntKind.signed, IntKind.bits] <;> omega
      cases hd : decide (sq ≤ o.s)
      · have hlo : o.s < sq := by have := of_decide_eq_false hd; omega
        have H1 : Hid (∀ k o, l[k]? = some o → k < h + 1 → o.s < sq) := fun k u hk hkh => by
          rcases Nat.lt_or_ge k h with c1 | c1
          · have := hmono k h u o hk ho c1; omega
          · obtain rfl : k = h := by omega
            rw [ho] at hk; cases hk; exact hlo
        have H2 : Hid (∀ k o, l[k]? = some o → j ≤ k → sq ≤ o.s) := h2
        clear h1 h2 hr hmono
        go_wp2_with fail
        rw [HDV.out]
        refine (sfind1_any h b c q g off n cap o.s sq _ cb cc (by omega) (hq (by omega)) cx).mono ?_
        rintro e W ⟨rfl, m2, rfl⟩
        rw [hd]
        go_wp2_with fail
        go_roundw
        case rel => exact ⟨h + 1, j, by omega, hj, by go_num, rfl, H1.out, H2.out, m + m2, rfl⟩
        case measure => simp [intOf]; omega
      · have hlo : sq ≤ o.s := of_decide_eq_true hd
        have H1 : Hid (∀ k o, l[k]? = some o → k < i → o.s < sq) := h1
        have H2 : Hid (∀ k o, l[k]? = some o → h ≤ k → sq ≤ o.s) := fun k u hk hkh => by
          rcases Nat.lt_or_ge h k with c1 | c1
          · have := hmono h k o u ho hk c1; omega
          · obtain rfl : k = h := by omega
            rw [ho] at hk; cases hk; exact hlo
        clear h1 h2 hr hmono
        go_wp2_with fail
        rw [HDV.out]
        refine (sfind1_any h b c q g off n cap o.s sq _ cb cc (by omega) (hq (by omega)) cx).mono ?_
        rintro e W ⟨rfl, m2, rfl⟩
        rw [hd]
        go_wp2_with fail
        go_roundw
        case rel => exact ⟨i, h, by omega, by omega, rfl, by rw [HDV.out], H1.out, H2.out, m + m2, rfl⟩
        case measure => simp [intOf]; omega
set_option maxHeartbeats 1000000 in
theorem sfind_any (v : Value) (l : List Op5) (sq : Int) (w : World) (hv : ER E5 w v l) (hl : l.length ≤ 1000000) (hs : l.Pairwise fun a b => a.s < b.s) :
    Calls Tryz.prog 75 #[v, .int .i64 sq] w fun e w' => ∃ i : Nat, e = .returned (.int .i64 (i : Int)) ∧ FndP l sq i ∧ Below w.heap.size w w' := by
  obtain ⟨q, cap, g, off, rfl, hc, hm, hp, hr⟩ := hv.at
  obtain ⟨A, hE, hB1, hB2, hw⟩ := blk2 w #[.slice q l.length cap] #[.int .i64 sq] 23 3
  have x1 := hB1.at (i := 0) rfl
  have x2 := hB2.at (i := 0) rfl
  have HR : Hid (∀ j o, l[j]? = some o → A.cell? ⟨g, off + j * 5, none⟩ = some (.int .i64 o.s)) := fun j o hj => by
    have hpos : 0 < l.length := Nat.lt_of_le_of_lt (Nat.zero_le _) (List.getElem?_eq_some_iff.1 hj).1
    exact keep_cell hw (hr j o hj 0 _ rfl) (hp hpos).2
  have HP : Hid (0 < l.length → q = some ⟨g, off, none⟩) := fun h => (hp h).1
  clear hr hp
  go_enter Tryz.func75, Tryz.ntmps75
  go_wp2_with (go_at_call 97; refine (ssearch_any l sq _ _ q g off cap _ hl x1 x2 HP.out HR.out hs).mono ?_; rintro e W ⟨i, rfl, hF, m, rfl⟩)
  go_ret
  exact ⟨i, rfl, hF, ab_drewN hw _⟩
end Go.Proofs.YthmolbcnbcajdaaGreat
namespace Go.Proofs.YthmolbcnbcajdaaGreat
open Go.RowKit
set_option linter.unusedVariables false
set_option maxRecDepth 100000

theorem smul_any (c : Nat) (hc : c ≤ 12) (w : World) : Calls Tryz.prog 60 #[.int .u64 1, .int .u64 (c : Int)] w fun e w' => e = .returned (.tuple #[.int .u64 0, .int .u64 (c : Int)]) ∧ w' = w := by
  have h : c = 0 ∨ c = 1 ∨ c = 2 ∨ c = 3 ∨ c = 4 ∨ c = 5 ∨ c = 6 ∨ c = 7 ∨ c = 8 ∨ c = 9 ∨ c = 10 ∨ c = 11 ∨ c = 12 := by omega
  rcases h with rfl | rfl | rfl | rfl | rfl | rfl | rfl | rfl | rfl | rfl | rfl | rfl | rfl
  all_goals
    go_enter Tryz.func60, Tryz.ntmps60
    go_wp2_with (go_in)
    go_ret2
    exact ⟨rfl, rfl⟩
end Go.Proofs.YthmolbcnbcajdaaGreat
namespace Go.Proofs.YthmolbcnbcajdaaGreat
open Go.RowKit
set_option linter.unusedVariables false
set_option maxRecDepth 100000

theorem eltP : Tryz.prog.underlying 61 = some (.slice (Tryz.prog.elem 61)) := by kernel_rfl
theorem sizeP (w : World) : (sizeOf (Tryz.prog.elem 61)).run Tryz.prog w = .ok 2 w := by kernel_rfl
theorem e2_splice (p : Int × Int) (n m c : Nat) (h : n + m ≤ c) (z : Int × Int) : (E2.fl (List.replicate n p ++ List.replicate (c - n) z)).take (n * 2) ++ E2.fl (List.replicate m p) ++ (E2.fl (List.replicate n p ++ List.replicate (c - n) z)).drop (n * 2 + m * 2) = E2.fl (List.replicate (n + m) p ++ List.replicate (c - (n + m)) z) := by
  have h1 := E2.fl_take (List.replicate n p ++ List.replicate (c - n) z) n
  have h2 := E2.fl_drop (List.replicate n p ++ List.replicate (c - n) z) (n + m)
  rw [show (n + m) * E2.k = n * 2 + m * 2 from Nat.add_mul n m 2] at h2
  rw [show n * E2.k = n * 2 from rfl] at h1
  rw [h1, h2, ← E2.fl_append, ← E2.fl_append]
  congr 1
  have e : List.replicate (n + m) p = List.replicate n p ++ List.replicate m p := by simp
  rw [List.take_left' (by simp), e]
  congr 1
  rw [List.drop_append, List.drop_of_length_le (by simp), List.nil_append, List.length_replicate, List.drop_replicate]
  congr 1
  omega
set_option maxHeartbeats 2000000 in
theorem srepeat_any (p : Int × Int) (c : Nat) (g0 : Nat) (w : World) (h0 : 1 ≤ c) (hc : c ≤ 12) (hB : Blk w g0 #[.int .i64 p.1, .int .i64 p.2] 85) :
    Calls Tryz.prog 36 #[.slice (some ⟨g0, 0, none⟩) 1 1, .int .i64 (c : Int)] w fun e w' => ∃ v, e = .returned v ∧ EO E2 85 w' w.heap.size v (List.replicate c p) ∧ Below w.heap.size w w' := by
  have hci : (0 : Int) ≤ (c : Int) := by omega
  go_enter Tryz.func36, Tryz.ntmps36
  go_upto_region 6 with (go_at_call 60; refine (smul_any c hc _).mono ?_; rintro e w ⟨rfl, rfl⟩)
  go_upto_region 7 with (refine mk_e (E := E2) rfl (0, 0) rfl Tryz.underlying61 infoPl2 rfl rfl rfl rfl (by omega) (by omega) ?_; intro W1 hB1 b1)
  have hs0 := hB.keep b1
  have hlen1 : (E2.fl (List.replicate c ((0 : Int), (0 : Int)))).length = c * 2 := by rw [E2.fl_len, List.length_replicate]; rfl
  have hr1 := fun ty => run_copy_rowK (P := Tryz.prog) W1 61 61 ty 85 2 w.heap.size 0 c c ⟨g0, 0, none⟩ 1 1 _ 85 [.int .i64 p.1, .int .i64 p.2] Tryz.underlying61 sizePl2 hB1 (by rw [show Nat.min 1 c = 1 from Nat.min_eq_left h0]; rfl) (by
    intro j v hj
    rw [Addr.add_mid, Nat.zero_add, hs0.cell]; simpa using hj) (by simp [hlen1]; omega) (by simp [Value.oneCell'])
  have HE1 : Hid (E2.fl (List.replicate c ((0 : Int), (0 : Int))) = E2.fl (List.replicate c (0, 0))) := rfl
  have hx1 : ((E2.fl (List.replicate c ((0 : Int), (0 : Int)))).toArray.toList.take 0 ++ [.int .i64 p.1, .int .i64 p.2] ++ (E2.fl (List.replicate c ((0 : Int), (0 : Int)))).toArray.toList.drop (0 + [Value.int .i64 p.1, .int .i64 p.2].length)) = E2.fl (List.replicate 1 p ++ List.replicate (c - 1) (0, 0)) := by
    have := e2_splice p 0 1 c (by omega) (0, 0)
    simpa [En.fl_one1, E2] using this
  rw [hx1, show Nat.min 1 c = 1 from Nat.min_eq_left h0] at hr1
  have hB2 : Blk (W1.setRow w.heap.size (E2.fl (List.replicate 1 p ++ List.replicate (c - 1) (0, 0))).toArray) w.heap.size (E2.fl (List.replicate 1 p ++ List.replicate (c - 1) (0, 0))).toArray 85 := blk_setRow hB1 _
  have C2 := chg_setRow W1 w.heap.size (E2.fl (List.replicate 1 p ++ List.replicate (c - 1) (0, 0))).toArray
  clear hx1 HE1
  generalize W1.setRow w.heap.size (E2.fl (List.replicate 1 p ++ List.replicate (c - 1) (0, 0))).toArray = W2 at *
  have b2 := ab_chg b1 C2 (Nat.le_refl _)
  go_upto_region 8 with (refine cp_l rfl rfl _ _ rfl rfl hr1 ?_)
  clear hr1 hB1 hs0 hB b1 C2 hlen1
  go_loopw [8] (fun n wr => ∃ k : Nat, 1 ≤ k ∧ k ≤ c ∧ n = .int .i64 (k : Int) ∧ Blk wr w.heap.size (E2.fl (List.replicate k p ++ List.replicate (c - k) (0, 0))).toArray 85 ∧ Below w.heap.size w wr) (fun n _ => c - (intOf n).toNat)
  case atStart => exact ⟨1, Nat.le_refl _, h0, rfl, hB2, b2⟩
  case round =>
    clear hB2 b2
    obtain ⟨k, hk0, hk, rfl, hB, hb⟩ := hrel
    by_cases hkc : k = c
    · subst hkc
      rw [Nat.sub_self, List.replicate_zero, List.append_nil] at hB
      have HB : Hid (Blk wr w.heap.size (E2.fl (List.replicate k p)).toArray 85) := hB
      clear hB
      go_wp2_with fail
      go_ret
      refine ⟨_, rfl, eo_of (n := k) (own_blkE HB.out (Nat.le_refl _) (by rw [E2.fl_len, List.length_replicate]) (by unfold maxLen; omega)), hb⟩
    · have hki : (k : Int) < (c : Int) := by omega
      obtain ⟨m, hm⟩ : ∃ m, m = Nat.min k (c - k) := ⟨_, rfl⟩
      have hm1 : 1 ≤ m := by rw [hm]; exact Nat.le_min.2 ⟨hk0, by omega⟩
      have hm2 : m ≤ k := by rw [hm]; exact Nat.min_le_left _ _
      have hm3 : m ≤ c - k := by rw [hm]; exact Nat.min_le_right _ _
      obtain ⟨o', es, ho'⟩ := sliced_some w.heap.size 0 k c c 2
      have ho2 := ho' (by omega)
      rw [Nat.zero_add] at ho2
      subst ho2
      have hlen : (E2.fl (List.replicate k p ++ List.replicate (c - k) ((0 : Int), (0 : Int)))).length = c * 2 := by
        rw [E2.fl_len, List.length_append, List.length_replicate, List.length_replicate, show k + (c - k) = c by omega]; rfl
      have hr := fun (V : World) (hV : Blk V w.heap.size (E2.fl (List.replicate k p ++ List.replicate (c - k) ((0 : Int), (0 : Int)))).toArray 85) ty => run_copy_rowK (P := Tryz.prog) V 61 61 ty 85 2 w.heap.size (k * 2) (c - k) (c - k) ⟨w.heap.size, 0, none⟩ k c _ 85 (E2.fl (List.replicate m p)) Tryz.underlying61 sizePl2 hV (by rw [← hm, E2.fl_len, List.length_replicate]; rfl) (by
        intro j v hj
        have hj2 := (List.getElem?_eq_some_iff.1 hj).1
        have e : E2.fl (List.replicate k p ++ List.replicate (c - k) ((0 : Int), (0 : Int))) = E2.fl (List.replicate m p) ++ E2.fl (List.replicate (k - m) p ++ List.replicate (c - k) (0, 0)) := by
          rw [← E2.fl_append, ← List.append_assoc]
          congr 2
          rw [List.replicate_append_replicate]; congr 1; omega
        rw [Addr.add_mid, Nat.zero_add, hV.cell, e]
        simp only [List.getElem?_toArray]
        rw [List.getElem?_append_left hj2]
        exact hj) (by simp only [List.size_toArray]; rw [hlen, E2.fl_len, List.length_replicate]; show k * 2 + m * 2 ≤ c * 2; omega) (E2.fl_cell _)
      rw [← hm] at hr
      have hsp := e2_splice p k m c (by omega) (0, 0)
      simp only [E2.fl_len, List.length_replicate, show E2.k = 2 from rfl] at hr
      rw [hsp] at hr
      clear hsp hlen hm ho'
      go_upto_region 9 with fail
      refine wp_region_held_drew (S := fun _ => True) (by kernel_rfl) trivial (fun hHeld => ?_)
      have hBV : Blk wr.drew w.heap.size (E2.fl (List.replicate k p ++ List.replicate (c - k) (0, 0))).toArray 85 := hB
      have hbV : Below w.heap.size w wr.drew := ab_drew hb
      generalize wr.drew = V at *
      refine takeH (i := 0) (some 38) rfl rfl (by kernel_rfl) (by kernel_rfl) (by kernel_rfl) (fun _ _ _ h => h) (by rfl) (fun w hSw => by (try dsimp only at hSw); go_simp; try rfl) hHeld ?_
      go_frame
      refine takeH (i := 1) (some 39) rfl rfl (by kernel_rfl) (by kernel_rfl) (by kernel_rfl) (fun _ _ _ h => h) (by rfl) (fun w hSw => by (try dsimp only at hSw); go_simp; try rfl) hHeld ?_
      go_frame
      refine takeH (i := 2) (some 40) rfl rfl (by kernel_rfl) (by kernel_rfl) (by kernel_rfl) (fun _ _ _ h => h) (by rfl) (fun w hSw => by (try dsimp only at hSw); go_simp; try rfl) hHeld ?_
      go_frame
      refine takeH (i := 3) (some 41) rfl rfl (by kernel_rfl) (by kernel_rfl) (by kernel_rfl) (fun _ _ _ h => h) (by rfl) (fun w hSw => by (try dsimp only at hSw); (exact slo_l (x := .tmp 39) (y := .tmp 40) rfl rfl rfl rfl eltP (sizeP _) (by omega) (by omega) es)) hHeld ?_
      go_frame
      refine takeH (i := 4) (some 42) rfl rfl (by kernel_rfl) (by kernel_rfl) (by kernel_rfl) (fun _ _ _ h => h) (by rfl) (fun w hSw => by (try dsimp only at hSw); go_simp; try rfl) hHeld ?_
      go_frame
      refine takeH (i := 5) (some 43) rfl rfl (by kernel_rfl) (by kernel_rfl) (by kernel_rfl) (fun _ _ _ h => h) (by rfl) (fun w hSw => by (try dsimp only at hSw); go_simp; try rfl) hHeld ?_
      go_frame
      refine takeH (i := 6) (some 44) rfl rfl (by kernel_rfl) (by kernel_rfl) (by kernel_rfl) (fun _ _ _ h => h) (by rfl) (fun w hSw => by (try dsimp only at hSw); (exact slo_h (x := .tmp 42) (z := .tmp 43) rfl rfl rfl rfl eltP (sizeP _) (by omega))) hHeld ?_
      go_frame
      refine wpAnyH_ready (rs := [7]) (by kernel_rfl) (by simp) (AllReadyH.cons rfl (fun K hK => ?_) AllReadyH.nil)
      rw [if_pos (by rfl)]
      refine cpW (some 45) rfl rfl _ _ rfl rfl (hr V hBV) ?_
      have hB2 : Blk (V.setRow w.heap.size (E2.fl (List.replicate (k + m) p ++ List.replicate (c - (k + m)) (0, 0))).toArray) w.heap.size (E2.fl (List.replicate (k + m) p ++ List.replicate (c - (k + m)) (0, 0))).toArray 85 := blk_setRow hBV _
      have b2 := ab_chg hbV (chg_setRow V w.heap.size (E2.fl (List.replicate (k + m) p ++ List.replicate (c - (k + m)) (0, 0))).toArray) (Nat.le_refl _)
      refine hK.out _ _ trivial (fun hHeld => ?_)
      clear hK K hr hBV hbV
      generalize V.setRow w.heap.size (E2.fl (List.replicate (k + m) p ++ List.replicate (c - (k + m)) (0, 0))).toArray = W2 at *
      have hadd1 : IntKind.i64.wrap ((k : Int) + (m : Int)) = (k : Int) + (m : Int) := by simp [IntKind.wrap, IntKind.signed, IntKind.bits] <;> omega
      go_frame
      refine takeH (i := 8) (some 46) rfl rfl (by kernel_rfl) (by kernel_rfl) (by kernel_rfl) (fun _ _ _ h => h) (by rfl) (fun w hSw => by (try dsimp only at hSw); go_simp; try rfl) hHeld ?_
      go_frame
      refine takeH (i := 9) (some 8) rfl rfl (by kernel_rfl) (by kernel_rfl) (by kernel_rfl) (fun _ _ _ h => h) (by rfl) (fun w hSw => by (try dsimp only at hSw); go_simp; try rfl) hHeld ?_
      go_frame
      refine wpAnyH_done (by kernel_rfl) ?_ _
      go_wp2_with fail
      exact ⟨⟨k + m, by omega, by omega, by rw [Int.natCast_add], hB2, b2⟩, by simp only [intOf]; omega⟩
theorem built_sh (q : Option Addr) (n c : Nat) (a b : Int) : Tryz.prog.built 74 [(0, .slice q n c), (1, .int .i64 a), (2, .int .i64 b)] = some #[.slice q n c, .int .i64 a, .int .i64 b] := by kernel_rfl
end Go.Proofs.YthmolbcnbcajdaaGreat
namespace Go.Proofs.YthmolbcnbcajdaaGreat
open Go.RowKit
set_option linter.unusedVariables false
set_option maxRecDepth 100000

theorem bpl1 (x y : Int) (w : World) : (Instr.buildSlice 61 1 #[(0, .agg #[.int .i64 x, .int .i64 y])]).run Tryz.prog w = .ok (.slice (some ⟨w.heap.size, 0, none⟩) 1 1) (w.alloc (.cells #[.int .i64 x, .int .i64 y] 85)) := by kernel_rfl
theorem bplW {o : Oper} {a : Act} {w : World} {K : Act → World → Prop} {Q : Exit → Act → World → Prop} (d : Option Tmp) (hd : o.dst = d) {parts : Array (Nat × Operand)} (ho : o.op = .buildSlice 61 1 parts) (x y : Int)
    (hl : parts.map (fun (i, x) => (i, a.eval x)) = #[(0, .agg #[.int .i64 x, .int .i64 y])])
    (h : ∀ W', Blk W' w.heap.size #[.int .i64 x, .int .i64 y] 85 → Below w.heap.size w W' → K (a.put d (.slice (some ⟨w.heap.size, 0, none⟩) 1 1)) W') : o.wp Tryz.prog a w K Q := by
  subst hd
  unfold Oper.wp execOp
  simp only [ho, Sem.run_bind, hl, bpl1, Result.andThen_ok]
  exact h _ (Blk.new _ _ _) ((Below.refl _ _).alloc (Nat.le_refl _) _)
theorem bpl_l {ops : Array Oper} {rest : List Oper} {o : Oper} {a : Act} {w : World} {Q : Exit → Act → World → Prop} (hw : Region.wanted o (yielded ops a.tmps) = true) {parts : Array (Nat × Operand)} (ho : o.op = .buildSlice 61 1 parts) (x y : Int)
    (hl : parts.map (fun (i, x) => (i, a.eval x)) = #[(0, .agg #[.int .i64 x, .int .i64 y])])
    (h : ∀ W', Blk W' w.heap.size #[.int .i64 x, .int .i64 y] 85 → Below w.heap.size w W' → wpList Tryz.prog ops Q rest (a.put o.dst (.slice (some ⟨w.heap.size, 0, none⟩) 1 1)) W') : wpList Tryz.prog ops Q (o :: rest) a w := by
  unfold wpList
  rw [if_pos hw]
  left
  exact bplW o.dst rfl ho x y hl h
/-- Numbers copied into new memory. -/
theorem sown0 (W : World) (base : Nat) : W.ownsRow base 3 1 (.slice none 0 0) 0 (ints []) := World.ownsRow_nil W _ _ _
set_option maxHeartbeats 2000000 in
theorem snew_no (v : Value) (l : List Int) (sh hd : Int) (w : World) (hv : Is w v l) (hl : l.length ≤ 100000) (hg : goodF l sh hd = false) : Calls Tryz.prog 17 #[v, .int .i64 sh, .int .i64 hd] w fun e w' => e = .returned (.tuple #[.pointer none, Err 2]) ∧ Below w.heap.size w w' := by
  go_enter Tryz.func17, Tryz.ntmps17
  go_upto_region 1 with fail
  refine wp_region_lit ?_
  refine valS rfl v rfl ?_
  refine app_i w rfl rfl (l := []) (m := l) rfl (sown0 _ _) rfl hv rfl (by omega) (Below.refl _ _) ?_
  intro v' W1 hown hnil b1 hg1 hat
  have hO : Io W1 w.heap.size v' l := io_of hown
  obtain ⟨q, cap, rfl⟩ := hO.is.form
  have HI : Hid (Is W1 (.slice q l.length cap) l) := hO.is
  clear hown hnil hat hg1 hO
  generalize hn : l.length = n at *
  obtain ⟨A, hE, hB, hw⟩ := blk1 W1 #[.slice q n cap, .int .i64 sh, .int .i64 hd] 74
  have c0 := hB.at (i := 0) rfl
  have c1 := hB.at (i := 1) rfl
  have c2 := hB.at (i := 2) rfl
  have hIA := HI.out.keep hw
  go_wp2_with (go_at_call 35; refine (sgood_any _ l sh hd _ hIA).mono ?_; rintro e W2 ⟨rfl, b2⟩; rw [hg])
  go_ret2
  exact ⟨rfl, ab_trans (ab_trans b1 hw) b2⟩
set_option maxHeartbeats 4000000 in
theorem snew_ok (v : Value) (l : List Int) (sh hd : Int) (w : World) (hv : Is w v l) (hr : ∀ r ∈ l, r ≤ 9223372036854775807) (hg : goodF l sh hd = true) : Calls Tryz.prog 17 #[v, .int .i64 sh, .int .i64 hd] w fun e w' => ∃ b vr vh vc, e = .returned (.tuple #[sptr b, .nilIface]) ∧ Sq w' w.heap.size b vr vh vc (newS l sh hd) ∧ Below w.heap.size w w' := by
  have hOK := oks_new hg hr
  obtain ⟨-, ⟨hn1, hn3⟩, ⟨hs0, hs4⟩, -⟩ := goodF_iff.1 hg
  obtain ⟨c, hc⟩ : ∃ c, c = l.length * sh.toNat := ⟨_, rfl⟩
  have hL : (l.length : Int) * sh = (c : Int) := by rw [hc, Int.natCast_mul, Int.toNat_of_nonneg (by omega)]
  have hlan := hOK.lan
  have hlan2 : lanS (newS l sh hd) = (c : Int) := hL
  rw [hlan2] at hlan
  have hc1 : 1 ≤ c := by omega
  have hc12 : c ≤ 12 := by omega
  have HNS : Hid (newS l sh hd = ⟨l, sh, hd, 1, zOp, [], List.replicate c (-9223372036854775808, -9223372036854775808)⟩) := by show _ = _; rw [hc]; rfl
  have HOK : Hid (Oks (newS l sh hd)) := hOK
  clear hOK hc hlan hlan2
  go_enter Tryz.func17, Tryz.ntmps17
  go_upto_region 1 with fail
  refine wp_region_lit ?_
  refine valS rfl v rfl ?_
  refine app_i w rfl rfl (l := []) (m := l) rfl (sown0 _ _) rfl hv rfl (by omega) (Below.refl _ _) ?_
  intro v' W1 hown hnil b1 hg1 hat
  have hO : Io W1 w.heap.size v' l := io_of hown
  obtain ⟨q, cap, rfl⟩ := hO.is.form
  have HO : Hid (Io W1 w.heap.size (.slice q l.length cap) l) := hO
  clear hown hnil hat hg1 hO hr
  generalize hn : l.length = n at *
  obtain ⟨A, hE, hB, hw⟩ := blk1 W1 #[.slice q n cap, .int .i64 sh, .int .i64 hd] 74
  have hbA := ab_trans b1 hw
  have c0 := hB.at (i := 0) rfl
  have c1 := hB.at (i := 1) rfl
  have c2 := hB.at (i := 2) rfl
  have hIA := HO.out.is.keep hw
  have HOA : Hid (Io A w.heap.size (.slice q n cap) l) := HO.out.keep hw
  go_upto_region 4 with (go_at_call 35; refine (sgood_any _ l sh hd _ hIA).mono ?_; rintro e W2 ⟨rfl, b2⟩; rw [hg])
  have hB2 := hB.keep b2
  have hO2 : Hid (Io W2 w.heap.size (.slice q n cap) l) := HOA.out.keep b2
  have hb2 := ab_trans hbA b2
  have r0 : ∀ V, Below W2.heap.size W2 V → V.cell? ⟨W1.heap.size, 0, none⟩ = some (.slice q n cap) := fun V h => (hB2.keep h).at rfl
  have r1 : ∀ V, Below W2.heap.size W2 V → V.cell? ⟨W1.heap.size, 1, none⟩ = some (.int .i64 sh) := fun V h => (hB2.keep h).at rfl
  have r2 : ∀ V, Below W2.heap.size W2 V → V.cell? ⟨W1.heap.size, 2, none⟩ = some (.int .i64 hd) := fun V h => (hB2.keep h).at rfl
  clear c0 c1 c2 hIA HOA hE hB hbA HO b1 hw b2 A hB2 hv
  refine wp_region_held_drew (S := fun w' => Below W2.heap.size W2 w') (by kernel_rfl) (ab_drew (Below.refl _ _)) (fun hHeld => ?_)
  refine takeH (i := 2) (some 21) rfl rfl (by kernel_rfl) (by kernel_rfl) (by kernel_rfl) (fun _ _ _ h => h) (by rfl) (fun w hSw => by (try dsimp only at hSw); (have y0 := r0 _ hSw; have y1 := r1 _ hSw; have y2 := r2 _ hSw; go_simp; try rfl)) hHeld ?_
  go_frame
  refine wpAnyH_ready (rs := [0]) (by kernel_rfl) (by simp) (AllReadyH.cons rfl (fun K hK => ?_) AllReadyH.nil)
  go_simp
  refine (least_any _).mono ?_
  rintro e Wn ⟨rfl, bn⟩
  show K _ _
  refine hK.out _ _ (ab_trans hHeld bn) (fun hHeld => ?_)
  clear hK K bn
  refine wpAnyH_ready (rs := [1, 3]) (by kernel_rfl) (by simp) (AllReadyH.cons rfl (fun K hK => ?_) (AllReadyH.cons rfl (fun K hK => ?_) AllReadyH.nil))
  · rw [if_pos (by rfl)]
    refine bplW (some 20) rfl rfl (-9223372036854775808) (-9223372036854775808) (by simp only [List.map_toArray, List.map_cons, List.map_nil]; rfl) fun W5 hP bn => ?_
    refine hK.out _ _ (ab_trans hHeld bn) (fun hHeld => ?_)
    clear hK K bn
    go_frame
    refine wpAnyH_ready (rs := [3]) (by kernel_rfl) (by simp) (AllReadyH.cons rfl (fun K hK => ?_) AllReadyH.nil)
    go_simp
    refine (slanes_any q n cap sh hd _ hn3 hs0 hs4).mono ?_
    rintro e Wn ⟨rfl, bn⟩
    rw [hL]
    show K _ _
    have hP := hP.keep bn
    refine hK.out _ _ (ab_trans hHeld bn) (fun hHeld => ?_)
    clear hK K bn
    refine wpAnyH_ready (rs := [4]) (by kernel_rfl) (by simp) (AllReadyH.cons rfl (fun K hK => ?_) AllReadyH.nil)
    go_simp
    refine (srepeat_any ((-9223372036854775808), (-9223372036854775808)) c _ _ hc1 hc12 hP).mono ?_
    rintro e W6 ⟨v6, rfl, hO6, b6⟩
    show K _ _
    have hO7 := own_less hO6 (Nat.le_trans hb2.size hHeld.size)
    refine hK.out _ _ (ab_trans hHeld b6) (fun hHeld => ?_)
    clear hK K b6 hP hO6
    refine takeH (i := 5) (some 9) rfl rfl (by kernel_rfl) (by kernel_rfl) (by kernel_rfl) (fun _ _ _ h => h) (by rfl) (fun w hSw => by (try dsimp only at hSw); go_simp; try rfl) hHeld ?_
    go_frame
    refine wpAnyH_done (by kernel_rfl) ?_ _
    have y0 := r0 _ hHeld
    have y1 := r1 _ hHeld
    have y2 := r2 _ hHeld
    have hOh := hO2.out.keep hHeld
    have hbE := ab_trans hb2 hHeld
    obtain ⟨q6, c6, rfl⟩ := EO.form (E := E2) (l := List.replicate c (-9223372036854775808, -9223372036854775808)) hO7
    have h8 : EO E2 85 W6 w.heap.size (.slice q6 (List.replicate c ((-9223372036854775808 : Int), (-9223372036854775808 : Int))).length c6) (List.replicate c (-9223372036854775808, -9223372036854775808)) := hO7
    rw [List.length_replicate] at h8
    have HO7 : Hid (EO E2 85 W6 w.heap.size (.slice q6 c c6) (List.replicate c (-9223372036854775808, -9223372036854775808))) := h8
    clear h8
    have HOH : Hid (Io W6 w.heap.size (.slice q n cap) l) := hOh
    clear hO7 hOh hHeld r0 r1 r2
    go_wp2_with fail
    go_ret2
    rw [HNS.out] at HOK ⊢
    exact ⟨_, _, _, _, rfl, ⟨Blk.new _ _ _, hbE.size, HOH.out.keep (ab_alloc (Below.refl _ _) _), eo_nil _ _ _ _, HO7.out.keep (ab_alloc (Below.refl _ _) _), HOK.out⟩, ab_alloc hbE _⟩
  · go_simp
    refine (slanes_any q n cap sh hd _ hn3 hs0 hs4).mono ?_
    rintro e Wn ⟨rfl, bn⟩
    rw [hL]
    show K _ _
    refine hK.out _ _ (ab_trans hHeld bn) (fun hHeld => ?_)
    clear hK K bn
    refine wpAnyH_ready (rs := [1]) (by kernel_rfl) (by simp) (AllReadyH.cons rfl (fun K hK => ?_) AllReadyH.nil)
    rw [if_pos (by rfl)]
    refine bplW (some 20) rfl rfl (-9223372036854775808) (-9223372036854775808) (by simp only [List.map_toArray, List.map_cons, List.map_nil]; rfl) fun W5 hP bn => ?_
    refine hK.out _ _ (ab_trans hHeld bn) (fun hHeld => ?_)
    clear hK K bn
    go_frame
    refine wpAnyH_ready (rs := [4]) (by kernel_rfl) (by simp) (AllReadyH.cons rfl (fun K hK => ?_) AllReadyH.nil)
    go_simp
    refine (srepeat_any ((-9223372036854775808), (-9223372036854775808)) c _ _ hc1 hc12 hP).mono ?_
    rintro e W6 ⟨v6, rfl, hO6, b6⟩
    show K _ _
    have hO7 := own_less hO6 (Nat.le_trans hb2.size hHeld.size)
    refine hK.out _ _ (ab_trans hHeld b6) (fun hHeld => ?_)
    clear hK K b6 hP hO6
    refine takeH (i := 5) (some 9) rfl rfl (by kernel_rfl) (by kernel_rfl) (by kernel_rfl) (fun _ _ _ h => h) (by rfl) (fun w hSw => by (try dsimp only at hSw); go_simp; try rfl) hHeld ?_
    go_frame
    refine wpAnyH_done (by kernel_rfl) ?_ _
    have y0 := r0 _ hHeld
    have y1 := r1 _ hHeld
    have y2 := r2 _ hHeld
    have hOh := hO2.out.keep hHeld
    have hbE := ab_trans hb2 hHeld
    obtain ⟨q6, c6, rfl⟩ := EO.form (E := E2) (l := List.replicate c (-9223372036854775808, -9223372036854775808)) hO7
    have h8 : EO E2 85 W6 w.heap.size (.slice q6 (List.replicate c ((-9223372036854775808 : Int), (-9223372036854775808 : Int))).length c6) (List.replicate c (-9223372036854775808, -9223372036854775808)) := hO7
    rw [List.length_replicate] at h8
    have HO7 : Hid (EO E2 85 W6 w.heap.size (.slice q6 c c6) (List.replicate c (-9223372036854775808, -9223372036854775808))) := h8
    clear h8
    have HOH : Hid (Io W6 w.heap.size (.slice q n cap) l) := hOh
    clear hO7 hOh hHeld r0 r1 r2
    go_wp2_with fail
    go_ret2
    rw [HNS.out] at HOK ⊢
    exact ⟨_, _, _, _, rfl, ⟨Blk.new _ _ _, hbE.size, HOH.out.keep (ab_alloc (Below.refl _ _) _), eo_nil _ _ _ _, HO7.out.keep (ab_alloc (Below.refl _ _) _), HOK.out⟩, ab_alloc hbE _⟩
end Go.Proofs.YthmolbcnbcajdaaGreat
namespace Go.Proofs.YthmolbcnbcajdaaGreat
open Go.RowKit
set_option linter.unusedVariables false
set_option maxRecDepth 100000

set_option maxHeartbeats 2000000 in
theorem sclone_any {B b : Nat} {vr vh vc : Value} {S : Sm} (w : World) (h : Sq w B b vr vh vc S) (hB : B ≤ w.heap.size) :
    Calls Tryz.prog 27 #[sptr b] w fun e w' => ∃ b' vh' vc', e = .returned (sptr b') ∧ Sq w' B b' vr vh' vc' S ∧ (∀ k, bkS b' vh' vc' k → w.heap.size ≤ k) ∧ Below w.heap.size w w' := by
  have hr := h.cells
  obtain ⟨qr, cr, er⟩ := h.re.is.form
  subst er
  go_enter Tryz.func27, Tryz.ntmps27
  go_upto_region 3 with fail
  refine wp_region_held_drew (S := fun w' => Below w.heap.size w w') (by kernel_rfl) (ab_drew (Below.refl _ _)) (fun hHeld => ?_)
  generalize w.drew = V at *
  refine takeH (i := 0) (some 5) rfl rfl (by kernel_rfl) (by kernel_rfl) (by kernel_rfl) (fun _ _ _ h => h) (by rfl) (fun w hSw => by (try dsimp only at hSw); go_simp; try rfl) hHeld ?_
  go_frame
  refine takeH (i := 1) (some 6) rfl rfl (by kernel_rfl) (by kernel_rfl) (by kernel_rfl) (fun _ _ _ h => h) (by rfl) (fun w hSw => by (try dsimp only at hSw); go_simp; try rfl) hHeld ?_
  go_frame
  refine takeH (i := 2) (some 7) rfl rfl (by kernel_rfl) (by kernel_rfl) (by kernel_rfl) (fun _ _ _ h => h) (by rfl) (fun w hSw => by (try dsimp only at hSw); go_simp; try rfl) hHeld ?_
  go_frame
  refine takeH (i := 4) (some 9) rfl rfl (by kernel_rfl) (by kernel_rfl) (by kernel_rfl) (fun _ _ _ h => h) (by rfl) (fun w hSw => by (try dsimp only at hSw); go_simp; try rfl) hHeld ?_
  go_frame
  refine takeH (i := 5) (some 10) rfl rfl (by kernel_rfl) (by kernel_rfl) (by kernel_rfl) (fun _ _ _ h => h) (by rfl) (fun w hSw => by (try dsimp only at hSw); go_simp; try rfl) hHeld ?_
  go_frame
  refine takeH (i := 6) (some 11) rfl rfl (by kernel_rfl) (by kernel_rfl) (by kernel_rfl) (fun _ _ _ h => h) (by rfl) (fun w hSw => by (try dsimp only at hSw); go_simp; try rfl) hHeld ?_
  go_frame
  refine takeH (i := 8) (some 13) rfl rfl (by kernel_rfl) (by kernel_rfl) (by kernel_rfl) (fun _ _ _ h => h) (by rfl) (fun w hSw => by (try dsimp only at hSw); go_simp; try rfl) hHeld ?_
  go_frame
  refine takeH (i := 9) (some 14) rfl rfl (by kernel_rfl) (by kernel_rfl) (by kernel_rfl) (fun _ _ _ h => h) (by rfl) (fun w hSw => by (try dsimp only at hSw); go_simp; try rfl) hHeld ?_
  go_frame
  refine takeH (i := 10) (some 15) rfl rfl (by kernel_rfl) (by kernel_rfl) (by kernel_rfl) (fun _ _ _ h => h) (by rfl) (fun w hSw => by (try dsimp only at hSw); go_simp; try rfl) hHeld ?_
  go_frame
  refine takeH (i := 12) (some 17) rfl rfl (by kernel_rfl) (by kernel_rfl) (by kernel_rfl) (fun _ _ _ h => h) (by rfl) (fun w hSw => by (try dsimp only at hSw); go_simp; try rfl) hHeld ?_
  go_frame
  refine takeH (i := 14) (some 19) rfl rfl (by kernel_rfl) (by kernel_rfl) (by kernel_rfl) (fun _ _ _ h => h) (by rfl) (fun w hSw => by (try dsimp only at hSw); go_simp; try rfl) hHeld ?_
  go_frame
  refine takeH (i := 3) (some 8) rfl rfl (by kernel_rfl) (by kernel_rfl) (by kernel_rfl) (fun _ _ _ h => h) (by rfl) (fun w hSw => by (try dsimp only at hSw); (obtain ⟨y0, y1, y2, y3, y4, y5, y6, y7, y8, y9, y10⟩ := hr _ hSw; go_simp; try rfl)) hHeld ?_
  go_frame
  refine takeH (i := 7) (some 12) rfl rfl (by kernel_rfl) (by kernel_rfl) (by kernel_rfl) (fun _ _ _ h => h) (by rfl) (fun w hSw => by (try dsimp only at hSw); (obtain ⟨y0, y1, y2, y3, y4, y5, y6, y7, y8, y9, y10⟩ := hr _ hSw; go_simp; try rfl)) hHeld ?_
  go_frame
  refine takeH (i := 11) (some 16) rfl rfl (by kernel_rfl) (by kernel_rfl) (by kernel_rfl) (fun _ _ _ h => h) (by rfl) (fun w hSw => by (try dsimp only at hSw); (obtain ⟨y0, y1, y2, y3, y4, y5, y6, y7, y8, y9, y10⟩ := hr _ hSw; go_simp; try rfl)) hHeld ?_
  go_frame
  clear hr
  refine wpAnyH_ready (rs := [13]) (by kernel_rfl) (by simp) (AllReadyH.cons rfl (fun K hK => ?_) AllReadyH.nil)
  go_simp
  refine (sheld_any V (h.keep hHeld)).mono ?_
  rintro e W1 ⟨v1, rfl, hO1, b1⟩
  obtain ⟨q1, c1, e1⟩ := hO1.form
  subst e1
  show K _ _
  have hg1 := own_less hO1 hHeld.size
  refine hK.out _ _ (ab_trans hHeld b1) (fun hHeld => ?_)
  clear hK K
  try go_frame
  refine wpAnyH_ready (rs := [15]) (by kernel_rfl) (by simp) (AllReadyH.cons rfl (fun K hK => ?_) AllReadyH.nil)
  go_simp
  refine (splaces_any W1 (h.keep hHeld)).mono ?_
  rintro e W2 ⟨v2, rfl, hO2, b2⟩
  obtain ⟨q2, c2, e2⟩ := hO2.form
  subst e2
  show K _ _
  have hg2 := own_less hO2 hHeld.size
  have hg1 := own_keep hg1 b2
  have hW2 := ab_trans hHeld b2
  refine hK.out _ _ hW2 (fun hHeld => ?_)
  clear hK K hO1 hO2 b1 b2
  try go_frame
  refine takeH (i := 16) (some 21) rfl rfl (by kernel_rfl) (by kernel_rfl) (by kernel_rfl) (fun _ _ _ h => h) (by rfl) (fun w hSw => by (try dsimp only at hSw); go_simp; try rfl) hHeld ?_
  go_frame
  refine wpAnyH_ready (rs := [17]) (by kernel_rfl) (by simp) (AllReadyH.cons rfl (fun K hK => ?_) AllReadyH.nil)
  go_simp
  have hbx := ab_alloc (Below.refl W2.heap.size W2) (.cells (stC S (.slice qr S.res.length cr) (.slice q1 S.ho.length c1) (.slice q2 S.ct.length c2)) 76)
  refine hK.out _ _ (ab_trans hHeld hbx) (fun hHeld2 => ?_)
  clear hK K
  try go_frame
  have hHeld := hHeld2
  refine takeH (i := 18) (some 2) rfl rfl (by kernel_rfl) (by kernel_rfl) (by kernel_rfl) (fun _ _ _ h => h) (by rfl) (fun w hSw => by (try dsimp only at hSw); go_simp; try rfl) hHeld ?_
  go_frame
  refine wpAnyH_done (by kernel_rfl) ?_ _
  have hblk := Blk.new W2 (stC S (.slice qr S.res.length cr) (.slice q1 S.ho.length c1) (.slice q2 S.ct.length c2)) 76
  have hHW := hg2
  go_wp2_with fail
  go_ret
  have bW2 : Below w.heap.size w W2 := hW2
  have hH := own_less hg1 hB
  have hC := own_less hg2 hB
  refine ⟨W2.heap.size, _, _, rfl, ⟨hblk, Nat.le_trans hB bW2.size, (h.re.keep bW2).keep hbx, own_keep hH hbx, own_keep hC hbx, h.ok⟩, ?_, ab_trans bW2 hbx⟩
  rintro k (rfl | hk | hk)
  · exact bW2.size
  · exact (World.ownsRow.lt hg1 k hk).1
  · exact (World.ownsRow.lt hg2 k hk).1
end Go.Proofs.YthmolbcnbcajdaaGreat
