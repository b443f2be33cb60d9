/-
  A tape, under any calls, holds and answers what the chapter says: estuarylaw06.TapePlays returns true for every input; no condition.
-/
import Derived.Test.YtoofgidmegplbaaTpW
import Derived.ProofKit
import Derived.OpenShut
import Derived.ChangeOld
import Derived.Below
import Derived.Lib.SmallJoins
namespace Go.Proofs.Ytoofgidmegplbaa.tapePlays
open Go.ChangeShapes Go.WideShapes Go.ChangeAt Go.RowKit Go.Joins
set_option linter.unusedVariables false

theorem rf0 {W : World} {r : Nat} (h : Blk W r #[.string ⟨#[]⟩, .string ⟨#[]⟩, .int .i64 0, .bool false, .bool false, .int .i64 0, .int .i64 0, .bool false] 29) : Rf W r ts0 :=
  ⟨false, 0, 0, h, (fun _ => rfl), (fun _ h => by cases h), (fun h => by cases h)⟩
theorem valT {P : Program} {o : Oper} {a : Act} {w : World} {K : Act → World → Prop} {Q : Exit → Act → World → Prop} (d : Option Tmp) (hd : o.dst = d) (v : Value) (hr : (execOp a.eval o).run P w = .ok (.value v) w) (h : K (a.put d v) w) : o.wp P a w K Q := by
  subst hd
  unfold Oper.wp
  rw [hr, Oper.upon_value]
  exact h
theorem ld_op {o : Oper} {ρ : Operand → Value} {x : Operand} {b : Nat} {c0 c1 c2 : Value} {t : TypeId} {w : World} (ho : o.op = .load 32 x) (hx : ρ x = .pointer (some ⟨b, 0, none⟩)) (hB : Blk w b #[c0, c1, c2] t) :
    (execOp ρ o).run Try.prog w = .ok (.value (.agg #[c0, c1, c2])) w := by
  unfold execOp
  simp only [ho, hx, Instr.loadAt, Instr.sureAddr, Sem.run_bind, Sem.run_pure, Result.andThen_ok, run_loadVar_row w b t 32 #[c0, c1, c2] (0, 0) _ hB Try.underlying32 rfl (by kernel_rfl)]
set_option maxRecDepth 100000 in
set_option maxHeartbeats 4000000 in
theorem walk {W : World} (q : Option Addr) (n cap g off : Nat) (os : List OpD) (SC : Sc W q n cap g off os) :
    Calls Try.prog 3 #[.slice q n cap] W fun e w' => e = .returned (.bool true) ∧ Below W.heap.size W w' := by
  have SC0 := SC
  obtain ⟨hlen, hc, hm, hp, hg, hat, hfew⟩ := SC
  go_enter Try.func3, Try.ntmps3
  go_upto_region 3 with (go_at_call 9; refine (alive6_any _).mono ?_; rintro e V1 ⟨rfl, hb1⟩)
  have SC1 : Sc V1 q n cap g off os := ⟨hlen, hc, hm, hp, (fun h => Nat.lt_of_lt_of_le (hg h) hb1.size), (fun j x hx => (hat j x hx).keep (hg (by have := (List.getElem?_eq_some_iff.1 hx).1; omega)) hb1), hfew⟩
  go_wp2_with fail
  refine (long_any q n cap g off os _ SC1).mono ?_
  rintro e V2 ⟨⟨rr, rfl, hrr⟩, hb2⟩
  have bw2 := ab_trans hb1 hb2
  clear SC0 SC1
  cases rr with
  | true =>
    go_wp2_with fail
    go_ret
    exact ⟨rfl, bw2⟩
  | false =>
    obtain ⟨hall, hn5⟩ := hrr rfl
    go_upto_region 6 with (go_at_call 11; refine (new_any _).mono ?_; rintro e V3 ⟨rfl, h3', b3⟩; have h3 := h3'.less bw2.size; have bw3 := ab_trans bw2 b3; clear h3')
    have hM := Blk.new V3 #[.string ⟨#[]⟩, .string ⟨#[]⟩, .int .i64 0, .bool false, .bool false, .int .i64 0, .int .i64 0, .bool false] 29
    have b4 : Below V3.heap.size V3 (V3.alloc (.cells #[.string ⟨#[]⟩, .string ⟨#[]⟩, .int .i64 0, .bool false, .bool false, .int .i64 0, .int .i64 0, .bool false] 29)) := (Below.refl _ _).alloc (Nat.le_refl _) _
    generalize V3.alloc (.cells #[.string ⟨#[]⟩, .string ⟨#[]⟩, .int .i64 0, .bool false, .bool false, .int .i64 0, .int .i64 0, .bool false] 29) = V4 at *
    have hR4 := rf0 hM
    have h4 := h3.keep b4
    have bw4 := ab_trans bw3 b4
    have hr : W.heap.size ≤ V3.heap.size := bw3.size
    generalize hrr : V3.heap.size = r at *
    generalize hbb : V2.heap.size = b at *
    clear hM h3 b4 hrr
    go_wp2_with fail
    go_loopw [17] (fun x wr => ∃ (i : Nat) (v : Value) (S : TS), i ≤ n ∧ x = .int .i64 (i : Int) ∧ Tp wr W.heap.size b v S ∧ Rf wr r S ∧ S.steps ≤ i ∧ Below W.heap.size W wr) (fun x _ => n - (intOf x).toNat)
    case atStart => exact ⟨0, _, _, by omega, rfl, h4, hR4, by simp, bw4⟩
    case round =>
      clear h4 hR4 bw4
      obtain ⟨i, v, S, hi, rfl, h5, hR5, hs5, bw5⟩ := hrel
      by_cases hin : i = n
      · subst hin
        clear hat hp hg hall
        go_upto_region 16 with fail
        refine wp_region_held_drew (S := fun w' => Below wr.heap.size wr w') (by kernel_rfl) (Below.refl _ _).drew (fun hHeld => ?_)
        have h6 := h5.keep hHeld
        have hRk : ∀ w', Below wr.heap.size wr w' → Rf w' r S := fun w' hb => hR5.keep hb
        obtain ⟨ar, lf, un, hB5, -⟩ := id hR5
        have r0 : ∀ w', Below wr.heap.size wr w' → w'.cell? ⟨r, 0, none⟩ = some (.string (strB (S.l.take S.sure))) := fun w' hb => (octR (hB5.keep hb)).c0
        have r1 : ∀ w', Below wr.heap.size wr w' → w'.cell? ⟨r, 1, none⟩ = some (.string (strB (S.l.drop S.sure))) := fun w' hb => (octR (hB5.keep hb)).c1
        have hsu := h5.sure
        have hmx := h5.max
        generalize wr.drew = V6 at *
        refine takeH (i := 0) (some 71) rfl rfl (by kernel_rfl) (by kernel_rfl) (by kernel_rfl) (fun _ _ _ h => h) (by rfl) (fun w hSw => by (try dsimp only at hSw); go_simp; try rfl) hHeld ?_
        go_frame
        refine takeH (i := 3) (some 74) rfl rfl (by kernel_rfl) (by kernel_rfl) (by kernel_rfl) (fun _ _ _ h => h) (by rfl) (fun w hSw => by (try dsimp only at hSw); go_simp; try rfl) hHeld ?_
        go_frame
        refine takeH (i := 4) (some 75) rfl rfl (by kernel_rfl) (by kernel_rfl) (by kernel_rfl) (fun _ _ _ h => h) (by rfl) (fun w hSw => by (try dsimp only at hSw); go_simp; try rfl) hHeld ?_
        go_frame
        refine takeH (i := 5) (some 76) rfl rfl (by kernel_rfl) (by kernel_rfl) (by kernel_rfl) (fun _ _ _ h => h) (by rfl) (fun w hSw => by (try dsimp only at hSw); go_simp; try rfl) hHeld ?_
        go_frame
        refine takeH (i := 6) (some 77) rfl rfl (by kernel_rfl) (by kernel_rfl) (by kernel_rfl) (fun _ _ _ h => h) (by rfl) (fun w hSw => by (try dsimp only at hSw); (have hc := r0 w hSw; go_simp; try rfl)) hHeld ?_
        go_frame
        refine takeH (i := 7) (some 78) rfl rfl (by kernel_rfl) (by kernel_rfl) (by kernel_rfl) (fun _ _ _ h => h) (by rfl) (fun w hSw => by (try dsimp only at hSw); go_simp; try rfl) hHeld ?_
        go_frame
        refine takeH (i := 8) (some 79) rfl rfl (by kernel_rfl) (by kernel_rfl) (by kernel_rfl) (fun _ _ _ h => h) (by rfl) (fun w hSw => by (try dsimp only at hSw); go_simp; try rfl) hHeld ?_
        go_frame
        refine takeH (i := 9) (some 80) rfl rfl (by kernel_rfl) (by kernel_rfl) (by kernel_rfl) (fun _ _ _ h => h) (by rfl) (fun w hSw => by (try dsimp only at hSw); go_simp; try rfl) hHeld ?_
        go_frame
        refine takeH (i := 10) (some 81) rfl rfl (by kernel_rfl) (by kernel_rfl) (by kernel_rfl) (fun _ _ _ h => h) (by rfl) (fun w hSw => by (try dsimp only at hSw); (have hc := r1 w hSw; go_simp; try rfl)) hHeld ?_
        go_frame
        refine takeH (i := 11) (some 82) rfl rfl (by kernel_rfl) (by kernel_rfl) (by kernel_rfl) (fun _ _ _ h => h) (by rfl) (fun w hSw => by (try dsimp only at hSw); (refine (?_ : _ = Result.ok (Next.value (.string (strB S.l))) _); go_simp; rw [if_neg (by rw [strB_len, strB_len, List.length_take, List.length_drop]; omega), strB_app, List.take_append_drop])) hHeld ?_
        go_frame
        refine wpAnyH_ready (rs := [1]) (by kernel_rfl) (by simp) (AllReadyH.cons rfl (fun K hK => ?_) AllReadyH.nil)
        go_simp
        refine (tread_any _ _ _ _ _ h6).mono ?_
        rintro e V7 ⟨v7, rfl, O7, b7⟩
        have hc7 := sl_str O7.sl
        show K _ _
        refine hK.out _ _ (ab_trans hHeld b7) (fun hHeld => ?_)
        clear hK K
        refine wpAnyH_ready (rs := [2]) (by kernel_rfl) (by simp) (AllReadyH.cons rfl (fun K hK => ?_) AllReadyH.nil)
        go_simp
        refine hK.out _ _ hHeld (fun hHeld => ?_)
        clear hK K
        refine takeH (i := 12) (some 83) rfl rfl (by kernel_rfl) (by kernel_rfl) (by kernel_rfl) (fun _ _ _ h => h) (by rfl) (fun w hSw => by (try dsimp only at hSw); (refine (?_ : _ = Result.ok (Next.value (.bool true)) _); go_simp; try rfl)) hHeld ?_
        go_frame
        refine takeH (i := 13) (some 2) rfl rfl (by kernel_rfl) (by kernel_rfl) (by kernel_rfl) (fun _ _ _ h => h) (by rfl) (fun w hSw => by (try dsimp only at hSw); go_simp; try rfl) hHeld ?_
        go_frame
        refine wpAnyH_done (by kernel_rfl) ?_ _
        go_wp2_with fail
        go_ret
        exact ⟨rfl, ab_trans bw5 hHeld⟩
      · obtain ⟨x, hx⟩ : ∃ x, os[i]? = some x := ⟨os[i], List.getElem?_eq_getElem (by omega)⟩
        obtain rfl := hp (by omega)
        have ox0 := hat i x hx
        have hgl := hg (by omega)
        obtain ⟨d0, d1, d2, sl, hbk, hbn⟩ := id ox0
        replace d0 := (bw5.cell (p := ⟨g, off + i * 3, none⟩) hgl).trans d0
        replace d1 := (bw5.cell (p := ⟨g, off + i * 3 + 1, none⟩) hgl).trans d1
        replace d2 := (bw5.cell (p := ⟨g, off + i * 3 + 2, none⟩) hgl).trans d2
        have hl5 : x.l.length ≤ 16384 := hall x (List.mem_of_getElem? hx)
        have hii : (i : Int) < (n : Int) := by omega
        have hin' : i < n := by omega
        obtain ⟨kd, nn, vb, l⟩ := x
        dsimp only at d0 d1 d2 sl hbk hbn hl5
        obtain ⟨qx, capx, ex, -⟩ := id sl
        generalize hnl : l.length = nl at *
        subst ex
        clear hat hp hg hall hx ox0
        go_upto_region 9 with fail
        have hOb := Blk.new wr #[.int .i64 kd, .slice qx nl capx, .int .i64 nn] 32
        have b6 : Below wr.heap.size wr (wr.alloc (.cells #[.int .i64 kd, .slice qx nl capx, .int .i64 nn] 32)) := (Below.refl _ _).alloc (Nat.le_refl _) _
        refine wp_region_held_drew (S := fun _ => True) (by kernel_rfl) trivial (fun hHeld => ?_)
        have hOb' : Blk (wr.alloc (.cells #[.int .i64 kd, .slice qx nl capx, .int .i64 nn] 32)).drew wr.heap.size #[.int .i64 kd, .slice qx nl capx, .int .i64 nn] 32 := hOb
        have b6' := b6.drew
        generalize (wr.alloc (.cells #[.int .i64 kd, .slice qx nl capx, .int .i64 nn] 32)).drew = V6 at *
        have h6 := h5.keep b6'
        have hR6 := hR5.keep b6'
        have bw6 := ab_trans bw5 b6'
        clear hOb b6
        refine takeH (i := 0) (some 21) rfl rfl (by kernel_rfl) (by kernel_rfl) (by kernel_rfl) (fun _ _ _ h => h) (by rfl) (fun w hSw => by (try dsimp only at hSw); go_simp; try rfl) hHeld ?_
        go_frame
        refine takeH (i := 1) (some 22) rfl rfl (by kernel_rfl) (by kernel_rfl) (by kernel_rfl) (fun _ _ _ h => h) (by rfl) (fun w hSw => by (try dsimp only at hSw); go_simp; try rfl) hHeld ?_
        go_frame
        refine wpAnyH_ready (rs := [2]) (by kernel_rfl) (by simp) (AllReadyH.cons rfl (fun K hK => ?_) AllReadyH.nil)
        rw [if_pos (by rfl)]
        refine valT (some 23) rfl _ (ld_op rfl rfl hOb') ?_
        refine hK.out _ _ trivial (fun hHeld => ?_)
        clear hK K
        go_frame
        refine wpAnyH_ready (rs := [3]) (by kernel_rfl) (by simp) (AllReadyH.cons rfl (fun K hK => ?_) AllReadyH.nil)
        go_simp
        refine (play_any W b r v S kd nn _ l _ h6 hR6 hr bw6 sl (by omega) (by omega) hbk hbn).mono ?_
        rintro e V7 ⟨rfl, v7, S7, h7, hR7, hs7, bw7⟩
        show K _ _
        refine hK.out _ _ trivial (fun hHeld => ?_)
        clear hK K h6 hR6 bw6 h5 hR5 bw5 b6' hOb'
        refine takeH (i := 4) (some 25) rfl rfl (by kernel_rfl) (by kernel_rfl) (by kernel_rfl) (fun _ _ _ h => h) (by rfl) (fun w hSw => by (try dsimp only at hSw); go_simp; try rfl) hHeld ?_
        go_frame
        refine takeH (i := 5) (some 26) rfl rfl (by kernel_rfl) (by kernel_rfl) (by kernel_rfl) (fun _ _ _ h => h) (by rfl) (fun w hSw => by (try dsimp only at hSw); go_simp; try rfl) hHeld ?_
        go_frame
        refine wpAnyH_less (S' := fun w' => w' = V7) (fun _ _ => trivial) _ _ _ _ ?_
        have hHeld : V7 = V7 := rfl
        obtain ⟨ar, lf, un, hB7, -⟩ := id hR7
        have r0 := (octR hB7).c0
        have r1 := (octR hB7).c1
        have r2 := (octR hB7).c2
        have r7 := (octR hB7).c7
        have hsu := h7.sure
        have hmx := h7.max
        have z0 : (strB (S7.l.take S7.sure)).size = S7.sure := by rw [strB_len, List.length_take]; omega
        refine takeH (i := 6) (some 27) rfl rfl (by kernel_rfl) (by kernel_rfl) (by kernel_rfl) (fun _ _ _ h => h) (by rfl) (fun w hSw => by (try dsimp only at hSw); go_simp; try rfl) hHeld ?_
        go_frame
        refine takeH (i := 8) (some 29) rfl rfl (by kernel_rfl) (by kernel_rfl) (by kernel_rfl) (fun _ _ _ h => h) (by rfl) (fun w hSw => by (try dsimp only at hSw); go_simp; try rfl) hHeld ?_
        go_frame
        refine takeH (i := 9) (some 30) rfl rfl (by kernel_rfl) (by kernel_rfl) (by kernel_rfl) (fun _ _ _ h => h) (by rfl) (fun w hSw => by (try dsimp only at hSw); go_simp; try rfl) hHeld ?_
        go_frame
        refine takeH (i := 10) (some 31) rfl rfl (by kernel_rfl) (by kernel_rfl) (by kernel_rfl) (fun _ _ _ h => h) (by rfl) (fun w hSw => by (try dsimp only at hSw); go_simp; try rfl) hHeld ?_
        go_frame
        refine takeH (i := 11) (some 32) rfl rfl (by kernel_rfl) (by kernel_rfl) (by kernel_rfl) (fun _ _ _ h => h) (by rfl) (fun w hSw => by (try dsimp only at hSw); (subst hSw; go_simp; try rfl)) hHeld ?_
        go_frame
        refine takeH (i := 12) (some 33) rfl rfl (by kernel_rfl) (by kernel_rfl) (by kernel_rfl) (fun _ _ _ h => h) (by rfl) (fun w hSw => by (try dsimp only at hSw); (refine (?_ : _ = Result.ok (Next.value (.int .i64 ((S7.sure : Nat) : Int))) _); go_simp; try rfl)) hHeld ?_
        go_frame
        refine wpAnyH_ready (rs := [7]) (by kernel_rfl) (by simp) (AllReadyH.cons rfl (fun K hK => ?_) AllReadyH.nil)
        go_simp
        refine (sure_any _ _ _ h7.oct.c1).mono ?_
        rintro e X ⟨rfl, hX⟩
        subst X
        show K _ _
        refine hK.out _ _ rfl (fun hHeld => ?_)
        clear hK K
        refine takeH (i := 13) (some 34) rfl rfl (by kernel_rfl) (by kernel_rfl) (by kernel_rfl) (fun _ _ _ h => h) (by rfl) (fun w hSw => by (try dsimp only at hSw); (refine (?_ : _ = Result.ok (Next.value (.bool false)) _); go_simp; try rfl)) hHeld ?_
        go_frame
        refine takeH (i := 14) (some 35) rfl rfl (by kernel_rfl) (by kernel_rfl) (by kernel_rfl) (fun _ _ _ h => h) (by rfl) (fun w hSw => by (try dsimp only at hSw); go_simp; try rfl) hHeld ?_
        go_frame
        refine takeH (i := 15) (some 36) rfl rfl (by kernel_rfl) (by kernel_rfl) (by kernel_rfl) (fun _ _ _ h => h) (by rfl) (fun w hSw => by (try dsimp only at hSw); go_simp; try rfl) hHeld ?_
        go_frame
        refine takeH (i := 16) (some 37) rfl rfl (by kernel_rfl) (by kernel_rfl) (by kernel_rfl) (fun _ _ _ h => h) (by rfl) (fun w hSw => by (try dsimp only at hSw); go_simp; try rfl) hHeld ?_
        go_frame
        refine takeH (i := 18) (some 39) rfl rfl (by kernel_rfl) (by kernel_rfl) (by kernel_rfl) (fun _ _ _ h => h) (by rfl) (fun w hSw => by (try dsimp only at hSw); go_simp; try rfl) hHeld ?_
        go_frame
        refine takeH (i := 19) (some 40) rfl rfl (by kernel_rfl) (by kernel_rfl) (by kernel_rfl) (fun _ _ _ h => h) (by rfl) (fun w hSw => by (try dsimp only at hSw); go_simp; try rfl) hHeld ?_
        go_frame
        refine takeH (i := 20) (some 41) rfl rfl (by kernel_rfl) (by kernel_rfl) (by kernel_rfl) (fun _ _ _ h => h) (by rfl) (fun w hSw => by (try dsimp only at hSw); go_simp; try rfl) hHeld ?_
        go_frame
        refine takeH (i := 21) (some 42) rfl rfl (by kernel_rfl) (by kernel_rfl) (by kernel_rfl) (fun _ _ _ h => h) (by rfl) (fun w hSw => by (try dsimp only at hSw); (subst hSw; go_simp; try rfl)) hHeld ?_
        go_frame
        refine wpAnyH_ready (rs := [17]) (by kernel_rfl) (by simp) (AllReadyH.cons rfl (fun K hK => ?_) AllReadyH.nil)
        go_simp
        refine (steps_any _ _ _ h7.oct.c2).mono ?_
        rintro e X ⟨rfl, hX⟩
        subst X
        show K _ _
        refine hK.out _ _ rfl (fun hHeld => ?_)
        clear hK K
        refine takeH (i := 22) (some 43) rfl rfl (by kernel_rfl) (by kernel_rfl) (by kernel_rfl) (fun _ _ _ h => h) (by rfl) (fun w hSw => by (try dsimp only at hSw); (refine (?_ : _ = Result.ok (Next.value (.bool false)) _); go_simp; try rfl)) hHeld ?_
        go_frame
        refine takeH (i := 23) (some 44) rfl rfl (by kernel_rfl) (by kernel_rfl) (by kernel_rfl) (fun _ _ _ h => h) (by rfl) (fun w hSw => by (try dsimp only at hSw); go_simp; try rfl) hHeld ?_
        go_frame
        refine takeH (i := 24) (some 45) rfl rfl (by kernel_rfl) (by kernel_rfl) (by kernel_rfl) (fun _ _ _ h => h) (by rfl) (fun w hSw => by (try dsimp only at hSw); go_simp; try rfl) hHeld ?_
        go_frame
        refine takeH (i := 25) (some 46) rfl rfl (by kernel_rfl) (by kernel_rfl) (by kernel_rfl) (fun _ _ _ h => h) (by rfl) (fun w hSw => by (try dsimp only at hSw); go_simp; try rfl) hHeld ?_
        go_frame
        refine takeH (i := 27) (some 48) rfl rfl (by kernel_rfl) (by kernel_rfl) (by kernel_rfl) (fun _ _ _ h => h) (by rfl) (fun w hSw => by (try dsimp only at hSw); go_simp; try rfl) hHeld ?_
        go_frame
        refine takeH (i := 28) (some 49) rfl rfl (by kernel_rfl) (by kernel_rfl) (by kernel_rfl) (fun _ _ _ h => h) (by rfl) (fun w hSw => by (try dsimp only at hSw); go_simp; try rfl) hHeld ?_
        go_frame
        refine takeH (i := 29) (some 50) rfl rfl (by kernel_rfl) (by kernel_rfl) (by kernel_rfl) (fun _ _ _ h => h) (by rfl) (fun w hSw => by (try dsimp only at hSw); go_simp; try rfl) hHeld ?_
        go_frame
        refine takeH (i := 30) (some 51) rfl rfl (by kernel_rfl) (by kernel_rfl) (by kernel_rfl) (fun _ _ _ h => h) (by rfl) (fun w hSw => by (try dsimp only at hSw); (subst hSw; go_simp; try rfl)) hHeld ?_
        go_frame
        refine wpAnyH_ready (rs := [26]) (by kernel_rfl) (by simp) (AllReadyH.cons rfl (fun K hK => ?_) AllReadyH.nil)
        go_simp
        refine (down_any _ _ _ h7.oct.c7).mono ?_
        rintro e X ⟨rfl, hX⟩
        subst X
        show K _ _
        refine hK.out _ _ rfl (fun hHeld => ?_)
        clear hK K
        refine takeH (i := 31) (some 52) rfl rfl (by kernel_rfl) (by kernel_rfl) (by kernel_rfl) (fun _ _ _ h => h) (by rfl) (fun w hSw => by (try dsimp only at hSw); (refine (?_ : _ = Result.ok (Next.value (.bool false)) _); go_simp; try rfl)) hHeld ?_
        go_frame
        refine takeH (i := 32) (some 53) rfl rfl (by kernel_rfl) (by kernel_rfl) (by kernel_rfl) (fun _ _ _ h => h) (by rfl) (fun w hSw => by (try dsimp only at hSw); go_simp; try rfl) hHeld ?_
        go_frame
        refine wpAnyH_done (by kernel_rfl) ?_ _
        clear r0 r1 r2 r7 hB7 hHeld
        go_wp2_with fail
        refine (tread_any _ _ _ _ _ h7).mono ?_
        rintro e V8 ⟨v8, rfl, O8, b8⟩
        have h8 := h7.keep b8
        have hR8 := hR7.keep b8
        have bw8 := ab_trans bw7 b8
        have hb7 := h7.blk.lt
        have hr7 := hR7.lt
        have hv7 : ∀ k, v7.ownBlock = some k → k < V7.heap.size := fun k hk => (h7.own.lt k hk).2
        clear h7 hR7 bw7 z0
        go_upto_region 12 with fail
        refine wp_region_held_drew (S := fun w' => w' = V8.drew) (by kernel_rfl) rfl (fun hHeld => ?_)
        have bd : Below V8.heap.size V8 V8.drew := (Below.refl _ _).drew
        have h9 := h8.keep bd
        have hR9 := hR8.keep bd
        have bw9 := ab_trans bw8 bd
        have O9 := O8.keep bd
        clear h8 hR8 bw8 O8 bd
        generalize V8.drew = V9 at *
        obtain ⟨ar, lf, un, hB9, -⟩ := id hR9
        have r0 := (octR hB9).c0
        have r1 := (octR hB9).c1
        have hc9 := sl_str O9.sl
        refine takeH (i := 0) (some 56) rfl rfl (by kernel_rfl) (by kernel_rfl) (by kernel_rfl) (fun _ _ _ h => h) (by rfl) (fun w hSw => by (try dsimp only at hSw); go_simp; try rfl) hHeld ?_
        go_frame
        refine takeH (i := 1) (some 57) rfl rfl (by kernel_rfl) (by kernel_rfl) (by kernel_rfl) (fun _ _ _ h => h) (by rfl) (fun w hSw => by (try dsimp only at hSw); (subst hSw; go_simp; try rfl)) hHeld ?_
        go_frame
        refine takeH (i := 2) (some 58) rfl rfl (by kernel_rfl) (by kernel_rfl) (by kernel_rfl) (fun _ _ _ h => h) (by rfl) (fun w hSw => by (try dsimp only at hSw); go_simp; try rfl) hHeld ?_
        go_frame
        refine takeH (i := 3) (some 59) rfl rfl (by kernel_rfl) (by kernel_rfl) (by kernel_rfl) (fun _ _ _ h => h) (by rfl) (fun w hSw => by (try dsimp only at hSw); go_simp; try rfl) hHeld ?_
        go_frame
        refine takeH (i := 4) (some 60) rfl rfl (by kernel_rfl) (by kernel_rfl) (by kernel_rfl) (fun _ _ _ h => h) (by rfl) (fun w hSw => by (try dsimp only at hSw); go_simp; try rfl) hHeld ?_
        go_frame
        refine takeH (i := 5) (some 61) rfl rfl (by kernel_rfl) (by kernel_rfl) (by kernel_rfl) (fun _ _ _ h => h) (by rfl) (fun w hSw => by (try dsimp only at hSw); (subst hSw; go_simp; try rfl)) hHeld ?_
        go_frame
        refine takeH (i := 6) (some 62) rfl rfl (by kernel_rfl) (by kernel_rfl) (by kernel_rfl) (fun _ _ _ h => h) (by rfl) (fun w hSw => by (try dsimp only at hSw); go_simp; try rfl) hHeld ?_
        go_frame
        refine takeH (i := 7) (some 63) rfl rfl (by kernel_rfl) (by kernel_rfl) (by kernel_rfl) (fun _ _ _ h => h) (by rfl) (fun w hSw => by (try dsimp only at hSw); go_simp; try rfl) hHeld ?_
        go_frame
        refine takeH (i := 8) (some 64) rfl rfl (by kernel_rfl) (by kernel_rfl) (by kernel_rfl) (fun _ _ _ h => h) (by rfl) (fun w hSw => by (try dsimp only at hSw); go_simp; try rfl) hHeld ?_
        go_frame
        refine takeH (i := 9) (some 65) rfl rfl (by kernel_rfl) (by kernel_rfl) (by kernel_rfl) (fun _ _ _ h => h) (by rfl) (fun w hSw => by (try dsimp only at hSw); (subst hSw; go_simp; try rfl)) hHeld ?_
        go_frame
        refine takeH (i := 10) (some 66) rfl rfl (by kernel_rfl) (by kernel_rfl) (by kernel_rfl) (fun _ _ _ h => h) (by rfl) (fun w hSw => by (try dsimp only at hSw); (refine (?_ : _ = Result.ok (Next.value (.string (strB S7.l))) _); go_simp; rw [if_neg (by rw [strB_len, strB_len, List.length_take, List.length_drop]; omega), strB_app, List.take_append_drop])) hHeld ?_
        go_frame
        refine takeH (i := 11) (some 67) rfl rfl (by kernel_rfl) (by kernel_rfl) (by kernel_rfl) (fun _ _ _ h => h) (by rfl) (fun w hSw => by (try dsimp only at hSw); (refine (?_ : _ = Result.ok (Next.value (.bool false)) _); go_simp; try rfl)) hHeld ?_
        go_frame
        refine wpAnyH_done (by kernel_rfl) ?_ _
        clear r0 r1 hc9 hHeld hB9
        go_wp2_with fail
        refine (over_any _ _ _ _ O9).mono ?_
        rintro e V10 ⟨rfl, hk1, hk2⟩
        have hfin : Tp V10 W.heap.size b v7 S7 ∧ Rf V10 r S7 ∧ Below W.heap.size W V10 := by
          cases hob : v8.ownBlock with
          | none => obtain rfl := hk2 hob; exact ⟨h9, hR9, bw9⟩
          | some g8 =>
            have hg8 := (O9.lt g8 hob).1
            have k := hk1 g8 hob
            exact ⟨h9.chgO k (by omega) (fun e => by have := hv7 _ e; omega), hR9.chgO k (by omega), bw9.trans (k.below (by have := h9.ge; omega))⟩
        obtain ⟨h10, hR10, bw10⟩ := hfin
        clear hk1 hk2 h9 hR9 bw9 O9
        go_wp2_with fail
        exact ⟨⟨i + 1, v7, S7, by omega, rfl, h10, hR10, by omega, bw10⟩, by simp only [intOf]; omega⟩

theorem own : ownKnob Try.prog.godebug = none := by kernel_rfl
theorem laidOut : laidOutB Try.prog = true := by kernel_rfl

set_option maxRecDepth 100000 in
theorem lifted (os : Os) (started : os.Started) (H : Type) (enc : TypeId × Value → H) :
    ReturnsInHanded {} Try.checked os 3 .any (Rows.tapePlaysSpec.pre6 enc Try.prog Try.f3 Rows.tapePlaysRow.domain false) (Rows.tapePlaysSpec.post enc Try.prog Try.f3 false true false false) := by
  refine returnsInHanded_of_change_sized (C := Try.checked) own started (by kernel_rfl) Try.func3
    (ChangeSpec.witness6 (enc := enc) (C := Try.checked) false ⟨#[], #[.slice none 0 0], []⟩ 8 (by kernel_rfl) (by kernel_rfl) (by kernel_rfl) (by kernel_rfl)) ?_
  intro W base args ds gs before hval0 hW hcnd hsz _
  have hval : ∀ (j : Nat) t v, Try.f3.params[j]? = some t → args[j]? = some v → Value.okWide Try.prog W .any base t v := hval0
  have hW' := hW
  obtain ⟨p, q, hA0, hV, rfl, hfz, hnd⟩ := hW
  have hA : DataW.TrodAll enc Try.prog W 0 (fun _ => true) true Try.f3.params.toList args.toList ds p := hA0
  rw [Try.params3] at hA hval
  obtain ⟨v0, vs0, d0, ds0, p0, q0, hargs, rfl, rfl, h0, r0⟩ := trodAll_cons hA
  obtain ⟨rfl, rfl, rfl⟩ := trodAll_nil r0
  obtain rfl : args = #[v0] := by cases args; simp_all
  obtain ⟨rfl, rfl⟩ := trodVars_none hV
  have k0 := h0
  have lt0 : ∀ x ∈ p0, x.block < W.heap.size := by obtain ⟨m, hm⟩ := k0; exact DataW.trod_lt m _ _ _ hm
  obtain ⟨sq0_, sn0_, sk0_, sg0_, so0_, os0_, rfl, SC0_⟩ := open_ops (hval 0 22 v0 rfl rfl) h0 (fun n hn => by simpa using List.all_eq_true.1 hsz n (DataW.weights_mem_each (j := 0) (t := 22) (by kernel_rfl) rfl n hn))
  clear hA0 hval0
  refine (walk sq0_ sn0_ sk0_ sg0_ so0_ os0_ SC0_).mono fun e W' ⟨he, bel⟩ => ?_
  subst he
  exact ⟨_, rfl, _, _, _, [], _, [], hW', trodAll_mk1 (shut_bool Try.underlying4 _), (trodAll_cons_mk (Below.trod laidOut (by kernel_rfl) (of_decide_eq_true (by kernel_rfl)) k0 bel lt0) trodAll_mk0), rfl, bel.frame _, fun h => by cases h⟩

theorem over : Rows.tapePlaysRow.holds Try.pinned (OpenSpec.ofChange Rows.tapePlaysSpec) :=
  OpenClaim.holds_of_wide 3 Try.f3 rfl rfl rfl rfl rfl rfl rfl ⟨rfl, rfl, rfl, rfl, rfl⟩ rfl rfl rfl rfl rfl (by kernel_rfl) Try.func3 (by kernel_rfl)
    (of_decide_eq_true (by kernel_rfl)) (by unfold Func.isWrapper; first | (rw [if_pos (by decide +kernel)]; kernel_rfl) | (rw [if_neg (by decide +kernel)]; exact ⟨rfl, rfl⟩))
    (fun os started H enc _ => lifted os started H enc)

theorem proved : Rows.TapePlaysSaid := over
end Go.Proofs.Ytoofgidmegplbaa.tapePlays
namespace Go.Proofs.Ytoofgidmegplbaa
theorem tapePlays_holds : Rows.TapePlaysSaid := tapePlays.proved
#print axioms tapePlays_holds
end Go.Proofs.Ytoofgidmegplbaa
