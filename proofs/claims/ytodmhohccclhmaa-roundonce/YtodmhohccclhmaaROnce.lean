/-
  RoundOnce: of swaps of nothing into values, by any rounds over registers that answer as layer 9 says, whatever is lost, doubled and late, at most one is done without being stale, and all that are done then have its value. For every number of keepers and all acts.
-/
import Derived.Test.YtodmhohccclhmaaPk36
import Derived.Test.YtodmhohccclhmaaPk35
import Derived.ProofKit
import Derived.OpenShut
import Derived.ChangeOld
import Derived.Below
import Derived.Lib.SmallJoins
namespace Go.Proofs.Ytodmhohccclhmaa.roundOnce
open Go.ChangeShapes Go.WideShapes Go.ChangeAt Go.RowKit Go.Joins
set_option linter.unusedVariables false
set_option maxRecDepth 100000

theorem mod_kp (x : Int) : ∃ k : Nat, 1 ≤ k ∧ k ≤ 5 ∧ wrap64 (1 + wrap64 ((IntKind.u64.wrap x).tmod 5)) = (k : Int) := by
  obtain ⟨m, h1, h2⟩ := mod_nat11 x 5 (by omega) (by omega)
  refine ⟨m + 1, by omega, by omega, ?_⟩
  rw [h2]
  clear h2
  unfold wrap64
  omega
section
variable {ops : Array Oper} {rest : List Oper} {o : Oper} {a : Act} {w : World} {Q : Exit → Act → World → Prop}
theorem mk_regs (hw : Region.wanted o (yielded ops a.tmps) = true) {x y : Operand} (ho : o.op = .makeSlice 36 x y) {N : Int} {n : Nat} (hx : a.eval x = .int .i64 N) (hy : a.eval y = .int .i64 N) (hN : N = (n : Int)) (h1 : 1 ≤ n) (h5 : n ≤ 5)
    (h : wpList Try.prog ops Q rest (a.put o.dst (.slice (some ⟨w.heap.size, 0, none⟩) n n)) (w.alloc (.cells (flR (List.replicate n r0D)).toArray 61))) : wpList Try.prog ops Q (o :: rest) a w := by
  subst hN
  unfold wpList
  rw [if_pos hw]
  left
  exact mkSW o.dst rfl ho hx hy (mk_rg h1 h5 w) h
end
theorem eq_err (n : Nat) (w : World) : (binOp .eql 55 (errV n) .nilIface).run Try.prog w = .ok (.bool (decide (n = 0))) w := by
  by_cases h : n = 0
  · subst h; kernel_rfl
  · rw [decide_eq_false h]
    unfold errV
    rw [if_neg h]
    kernel_rfl
/-- How many swaps are fresh, of the rounds ahead of k. -/
def FrI (S : Net) (k f : Nat) : Prop := (f = 0 ∧ ∀ d D, d < k → S.rd[d]? = some D → D.st = 3 → D.e ≠ 0) ∨ (f = 1 ∧ ∃ d D, d < k ∧ S.rd[d]? = some D ∧ D.st = 3 ∧ D.e = 0)
theorem fr_no {S : Net} {k f : Nat} {Q : Rd} (h : FrI S k f) (hQ : S.rd[k]? = some Q) (hn : Q.st = 3 → Q.e ≠ 0) : FrI S (k + 1) f := by
  rcases h with ⟨e, h⟩ | ⟨e, d, D, hd, h⟩
  · refine .inl ⟨e, fun d D hd hD h3 => ?_⟩
    by_cases hk : d = k
    · subst hk; rw [hQ] at hD; cases hD; exact hn h3
    · exact h d D (by omega) hD h3
  · exact .inr ⟨e, d, D, by omega, h⟩
theorem fr_yes {S : Net} {k f : Nat} {Q : Rd} (h : FrI S k f) (hQ : S.rd[k]? = some Q) (h3 : Q.st = 3) (he : Q.e = 0) (hu : ∀ (i j : Nat) (R Q : Rd), S.rd[i]? = some R → S.rd[j]? = some Q → R.st = 3 → Q.st = 3 → R.e = 0 → Q.e = 0 → i = j) : f = 0 ∧ FrI S (k + 1) (f + 1) := by
  rcases h with ⟨e, h⟩ | ⟨e, d, D, hd, hD, h3', he'⟩
  · exact ⟨e, .inr ⟨by omega, k, Q, by omega, hQ, h3, he⟩⟩
  · have := hu d k D Q hD hQ h3' h3 he' he
    omega
/-- The values of the rounds that are done, as the law keeps them. -/
structure VsI (W0 W : World) (v : Value) (vs : List Value) (c : List Int) : Prop where
  own : W.ownsRow W0.heap.size 24 1 v vs.length vs
  one : ∀ x ∈ vs, Im W0 W W0.heap.size x c
theorem VsI.frm {X : Nat → Prop} {W0 W W' : World} {v : Value} {vs : List Value} {c : List Int} (h : VsI W0 W v vs c) (hf : Frm X W W') (hN : NoI X W) (hx : ∀ k, v.ownBlock = some k → ¬ X k) : VsI W0 W' v vs c :=
  ⟨own_frm h.own hf hx, fun x hx => (h.one x hx).frm hf hN⟩
theorem VsI.keep {W0 W W' : World} {v : Value} {vs : List Value} {c : List Int} (h : VsI W0 W v vs c) (hb : Below W.heap.size W W') : VsI W0 W' v vs c := h.frm (X := fun _ => False) (frm_below hb) (noI_false W) (fun _ _ e => e)
theorem VsI.more {W0 W W' : World} {v v' x : Value} {vs : List Value} {c : List Int} (h : VsI W0 W v vs c) (hg : W.grownBy W' v.ownBlock) (ho : W'.ownsRow W0.heap.size 24 1 v' (vs.length + 1) (vs ++ [x])) (hi : Im W0 W W0.heap.size x c) : VsI W0 W' v' (vs ++ [x]) c := by
  have hf := grown_frm hg
  have hN : NoI (fun k => v.ownBlock = some k) W := fun k hk hi => by have := hi.uniq (own_kindR h.own hk); cases this
  refine ⟨by rw [List.length_append]; exact ho, fun y hy => ?_⟩
  rcases List.mem_append.1 hy with e | e
  · exact (h.one y e).frm hf hN
  · rw [List.mem_singleton.1 e]; exact hi.frm hf hN
set_option maxHeartbeats 4000000 in
theorem walk {W : World} (kp : Int) (hk : -9223372036854775808 ≤ kp ∧ kp ≤ 9223372036854775807) (q : Option Addr) (n cap g off : Nat) (os : List AcD) (Z : AcRow W q n cap g off os) :
    Calls Try.prog 5 #[.int .i64 kp, .slice q n cap] W fun e w' => e = .returned (.bool true) ∧ Below W.heap.size W w' := by
  go_enter Try.func5, Try.ntmps5
  go_upto_region 3 with (go_at_call 9; refine (alive11_any _).mono ?_; rintro e W1 ⟨rfl, b1⟩)
  have Z1 := Z.keep b1
  by_cases h4 : n ≤ 400
  case neg =>
    have i1 : 400 < (n : Int) := by omega
    have i2 : 400 < n := by omega
    go_wp2_with fail
    go_ret
    exact ⟨rfl, b1⟩
  have i1 : ¬ (400 < (n : Int)) := by omega
  have i2 : ¬ (400 < n) := by omega
  go_upto_region 6 with (refine bs_ac0 W1 rfl rfl (by simp) (Nat.le_refl _) ?_; intro X1 hX1 bX1; go_frame)
  have hA0 : AcO W1 X1 (.slice (some ⟨W1.heap.size, 0, none⟩) 0 0) [] := ⟨hX1, fun x hx => (by cases hx), fun x hx => (by cases hx)⟩
  clear hX1
  go_upto_block 0 with fail
  go_wp2_with fail
  clear i1 i2
  go_loopw [5, 25] (fun ov iv wr => ∃ (j : Nat) (c' : Nat) (q' : Option Addr) (os' : List AcD), j ≤ n ∧ iv = .int .i64 (j : Int) ∧ ov = .slice q' j c' ∧ os'.length = j ∧ AcO W1 wr (.slice q' j c') os' ∧ Below W1.heap.size W1 wr) (fun _ iv _ => n - (intOf iv).toNat)
  case atStart => exact ⟨0, 0, _, [], by omega, rfl, rfl, rfl, hA0, bX1⟩
  case round =>
    obtain ⟨j, c', q', os', hj, rfl, rfl, hol, hA, hb⟩ := hrel
    clear hA0 bX1
    by_cases cj : j = n
    · have i9 : ¬ (j : Int) < (n : Int) := by omega
      have i10 : ¬ j < n := by omega
      have bW := ab_trans b1 hb
      obtain ⟨qr, capr, gr, er, Zr⟩ := hA.row hb (by omega)
      have hqq : q' = qr ∧ c' = capr := by injection er with a1 a2 a3; exact ⟨a1, a3⟩
      obtain ⟨rfl, rfl⟩ := hqq
      clear er
      have HSw : Hid (∀ x ∈ os', x.kd = 0 → x.k = 2 ∧ x.o = [] ∧ x.n.length = 1) := hA.sw
      have hol4 : os'.length ≤ 400 := by omega
      rw [hol] at Zr
      clear hA cj Z Z1
      obtain ⟨m, m1, m5, hme⟩ := mod_kp kp
      have HM : Hid (wrap64 (1 + wrap64 ((IntKind.u64.wrap kp).tmod 5)) = (m : Int)) := hme
      clear hme
      go_upto_region 14 with (refine mk_regs rfl rfl rfl rfl HM.out m1 m5 ?_; go_frame)
      obtain ⟨V0, hV, hN0, bV⟩ := nw_new wr m
      generalize hgen : World.alloc (World.alloc wr _) _ = V1
      have e1 : V1 = V0 := by rw [← hgen, ← hV]; rfl
      subst e1
      clear hgen hV i9 i10
      go_wp2_with fail
      refine (nrun_any wr (wr.heap.size + 1) _ (net0 m) _ _ j _ gr 0 os' (fun c => c.k = 2 ∧ c.o = [] ∧ c.n.length = 1) V1 hN0 (inv_0 m m1 m5) Zr (by omega) (fun x hx h0 => by
        obtain ⟨h1, h2, h3⟩ := HSw.out x hx h0
        refine ⟨?_, h1, h2, h3⟩
        unfold gdG gdC
        dsimp only
        rw [h1, h2, h3]
        rfl) rfl rfl).mono ?_
      rintro e V ⟨rfl, P, S, acc, hN, hI, -, h30, -, hPc, bV1⟩
      have bV3 : Below W.heap.size W V := ab_trans bW (bV.trans bV1)
      have hSwp : Swp S := fun i R hi => hPc R (List.mem_of_getElem? hi)
      obtain ⟨o1, o2, o3⟩ := once_ok hI hSwp
      have HC : Hid (∃ c0 : List Int, c0.length = 1 ∧ ∀ (k : Nat) (Q : Rd), S.rd[k]? = some Q → Q.st = 3 → Q.v = c0) := by
        by_cases hd : ∃ (i : Nat) (R : Rd), S.rd[i]? = some R ∧ R.st = 3
        · obtain ⟨i, R, hi, h3⟩ := hd
          exact ⟨R.v, o1 i R hi h3, fun k Q hQ q3 => o2 k i Q R hQ hi q3 h3⟩
        · exact ⟨[0], rfl, fun k Q hQ q3 => absurd ⟨k, Q, hQ, q3⟩ hd⟩
      have HO3 : Hid (∀ (i j : Nat) (R Q : Rd), S.rd[i]? = some R → S.rd[j]? = some Q → R.st = 3 → Q.st = 3 → R.e = 0 → Q.e = 0 → i = j) := o3
      clear o1 o2 o3 hSwp hPc bV bV1 bW hN0 Zr HSw
      obtain ⟨L, hL⟩ : ∃ L, S.rd.length = L := ⟨_, rfl⟩
      obtain ⟨qd, cd, ed⟩ := hN.roundsF
      rw [hL] at ed h30
      go_upto_region 18 with (refine bs_ns0 V rfl rfl (by simp) (Nat.le_refl _) ?_; intro X1 hX1 bX1; go_frame)
      obtain ⟨c0, hc1, hc0⟩ := HC.out
      have HC0 : Hid (∀ (k : Nat) (Q : Rd), S.rd[k]? = some Q → Q.st = 3 → Q.v = c0) := hc0
      clear hc0 HC
      have hVs0 : VsI V X1 (.slice (some ⟨V.heap.size, 0, none⟩) 0 0) [] c0 := ⟨hX1, fun x hx => (by cases hx)⟩
      clear hX1
      have e1 := hN.cells.2.1 X1 bX1
      rw [ed] at e1
      go_upto_block 2 with fail
      clear e1
      go_wp2_with fail
      go_loopw [9, 10, 60] (fun fv vv kv wx => ∃ (k f : Nat) (qv : Option Addr) (cv : Nat) (nv : Nat) (vs : List Value), k ≤ L ∧ kv = .int .i64 (k : Int) ∧ fv = .int .i64 (f : Int) ∧ vv = .slice qv nv cv ∧ vs.length = nv ∧ nv ≤ k ∧ FrI S k f ∧ VsI V wx (.slice qv nv cv) vs c0 ∧ Below V.heap.size V wx) (fun _ _ kv _ => L - (intOf kv).toNat)
      case atStart => exact ⟨0, 0, _, 0, 0, [], by omega, rfl, rfl, rfl, rfl, Nat.le_refl _, .inl ⟨rfl, fun d D hd => (by omega)⟩, hVs0, bX1⟩
      case round =>
        clear hVs0 bX1 hb
        obtain ⟨k, f, qv, cv, nv, vs, hk', rfl, rfl, rfl, hvl, hvk, hFr, hVs, hb⟩ := hrel
        have HFr : Hid (FrI S k f) := hFr
        clear hFr
        by_cases ck : k = L
        · have i9 : ¬ (k : Int) < (L : Int) := by omega
          have i10 : ¬ k < L := by omega
          have hf1 : f ≤ 1 := by
            have := HFr.out
            unfold FrI at this
            omega
          have hfi : (f : Int) ≤ 1 := by omega
          clear ck
          go_upto_block 4 with fail
          clear i9 i10
          go_wp2_with fail
          go_loopw [83] (fun iv wx => ∃ i : Nat, i ≤ nv ∧ iv = .int .i64 (i : Int) ∧ VsI V wx (.slice qv nv cv) vs c0 ∧ Below V.heap.size V wx) (fun iv _ => nv - (intOf iv).toNat)
          case atStart => exact ⟨0, by omega, rfl, hVs, hb⟩
          case round =>
            clear hVs hb
            obtain ⟨i, hi, rfl, hVs, hb⟩ := hrel
            by_cases ci : i = nv
            · have i9 : ¬ (i : Int) < (nv : Int) := by omega
              have i10 : ¬ i < nv := by omega
              clear ci
              go_wp2_with fail
              go_ret
              exact ⟨rfl, ab_trans bV3 hb⟩
            · have hin : i < nv := by omega
              have hii : (i : Int) < (nv : Int) := by omega
              have hn0 : 0 < nv := by omega
              have hn0i : (0 : Int) < (nv : Int) := by omega
              clear ci
              have hne : Value.slice qv nv cv ≠ .slice none 0 0 := fun e => by injection e with a1 a2 a3; omega
              have own := hVs.own
              rw [hvl] at own
              obtain ⟨gv, cv', e, g1, g2, g3, g4, g5⟩ := own_cells own hne
              have hqq : qv = some ⟨gv, 0, none⟩ ∧ cv = cv' := by injection e with a1 a2 a3; exact ⟨a1, a3⟩
              obtain ⟨rfl, rfl⟩ := hqq
              clear e hne own
              have g4' : cv ≤ 9223372036854775807 := by unfold maxLen at g4; omega
              obtain ⟨x, hx⟩ : ∃ x, vs[i]? = some x := ⟨vs[i]'(by omega), List.getElem?_eq_getElem _⟩
              obtain ⟨y, hy⟩ : ∃ x, vs[0]? = some x := ⟨vs[0]'(by omega), List.getElem?_eq_getElem _⟩
              have ix := (hVs.one x (List.mem_of_getElem? hx)).is hb
              have iy := (hVs.one y (List.mem_of_getElem? hy)).is hb
              obtain ⟨qx, cx, ex⟩ := ix.form
              obtain ⟨qy, cy, ey⟩ := iy.form
              rw [hc1] at ex ey
              subst ex
              subst ey
              have m1 := g5 i _ hx
              have m2 := g5 0 _ hy
              clear g5 hx hy
              go_wp2_with fail
              refine (gints_any (.slice qx 1 cx) (.slice qy 1 cy) c0 c0 _ ix iy (by omega) (by omega)).mono ?_
              rintro e X4 ⟨rfl, b4⟩
              rw [show decide (c0 = c0) = true from decide_eq_true rfl]
              clear m1 m2
              go_wp2_with fail
              exact ⟨⟨i + 1, by omega, rfl, hVs.keep b4, ab_trans hb b4⟩, by simp only [intOf]; omega⟩
        · have hkn : k < L := by omega
          have hki : (k : Int) < (L : Int) := by omega
          clear ck
          obtain ⟨Q, hQ⟩ : ∃ R, S.rd[k]? = some R := ⟨S.rd[k]'(by omega), List.getElem?_eq_getElem _⟩
          obtain ⟨gd2, cd2, qb, e2, z1, z2, hcell2, hE2'⟩ := hN.rdx hQ
          have hE2 := hE2'.keep hb
          rw [hL] at e2 z1
          have hqq : qd = some ⟨gd2, 0, none⟩ ∧ cd = cd2 := by rw [ed] at e2; injection e2 with a1 a2 a3; exact ⟨a1, a3⟩
          obtain ⟨rfl, rfl⟩ := hqq
          clear e2
          have hQv : Q.v.length ≤ 32 := (hI.rok k Q hQ).le
          have hc2 := hcell2 wr hb
          have hv0 := Below.refl wr.heap.size wr
          go_wp2_with fail
          refine (rstage_any qb (Q.st : Int) _ (hE2.c7 _ hv0)).mono ?_
          rintro e _ ⟨rfl, rfl⟩
          clear hc2
          by_cases s3 : Q.st = 3
          · have z3 : ((Q.st : Int) != 3) = false := by rw [s3]; rfl
            have HS3 : Hid (Q.st = 3) := s3
            obtain ⟨vv, hv10, hv11⟩ := hE2.c10
            have c7 : _ := hE2.c7 _ hv0
            rw [s3] at c7
            clear s3
            go_upto_region 22 with fail
            go_wp2_with fail
            refine (rresult_yes qb vv (errV Q.e) Q.v _ c7 (hv10 _ hv0).1 (hv11 _ hv0) (hv10 _ hv0).2 (by omega)).mono ?_
            rintro e X2 ⟨q2, n2, c2, rfl, hO2, hn2, b2⟩
            have hn1 : n2 = 1 := by rw [← hn2, HC0.out k Q hQ HS3.out, hc1]
            rw [HC0.out k Q hQ HS3.out] at hO2
            clear hn2 c7 hv10 hv11
            subst hn1
            have hVs2 := hVs.keep b2
            have hb2 := ab_trans hb b2
            have E2 := eqg_err Q.e
            by_cases he : Q.e = 0
            · have E1 : ∀ w, _ := eq_err Q.e
              rw [decide_eq_true he] at E1
              obtain ⟨hf0, hFr'⟩ := fr_yes HFr.out hQ HS3.out he HO3.out
              have HFr' : Hid (FrI S (k + 1) (f + 1)) := hFr'
              clear hFr' he HFr
              subst hf0
              go_wp2_with (first
                | (refine bs_ns1 rfl rfl q2 1 c2 (by simp only [List.map_toArray, List.map_cons, List.map_nil]; rfl) ?_; intro X4 hX4 bX4; have hVs4 := hVs2.keep bX4; have own4 := hVs4.own; rw [hvl] at own4; go_frame)
                | (refine app_ns rfl rfl q2 1 c2 (v := .slice qv nv cv) rfl own4 rfl hX4 (by omega) (ab_trans hb2 bX4).size ?_
                   intro v5 X5 own5 g5 at5
                   have hVs5 := hVs4.more (x := .slice q2 1 c2) g5 (by rw [hvl]; exact own5) (.inl ((hO2.keep bX4).less hb.size))
                   have f5 : ∃ q c, v5 = .slice q (nv + 1) c := by
                     rcases own5.2 with ⟨h1, h2⟩ | ⟨g, cap, cur, h1, _⟩
                     · omega
                     · exact ⟨_, _, h1⟩
                   have hb5 : Below V.heap.size V X5 := (ab_trans hb2 bX4).trans ((grown_frm g5).below (ab_trans hb2 bX4).size (fun k hk => (hVs4.own.lt k hk).1))
                   clear g5 at5 own5 own4 hVs4
                   obtain ⟨q5, c5, e5⟩ := f5
                   subst e5
                   go_frame))
              exact ⟨⟨k + 1, 1, q5, c5, nv + 1, _, by omega, rfl, rfl, rfl, by rw [List.length_append, hvl]; rfl, by omega, HFr'.out, hVs5, hb5⟩, by simp only [intOf]; omega⟩
            · have E1 : ∀ w, _ := eq_err Q.e
              rw [decide_eq_false he] at E1
              have HFr' : Hid (FrI S (k + 1) f) := fr_no HFr.out hQ (fun _ => he)
              clear he HFr
              go_wp2_with (first
                | (refine bs_ns1 rfl rfl q2 1 c2 (by simp only [List.map_toArray, List.map_cons, List.map_nil]; rfl) ?_; intro X4 hX4 bX4; have hVs4 := hVs2.keep bX4; have own4 := hVs4.own; rw [hvl] at own4; go_frame)
                | (refine app_ns rfl rfl q2 1 c2 (v := .slice qv nv cv) rfl own4 rfl hX4 (by omega) (ab_trans hb2 bX4).size ?_
                   intro v5 X5 own5 g5 at5
                   have hVs5 := hVs4.more (x := .slice q2 1 c2) g5 (by rw [hvl]; exact own5) (.inl ((hO2.keep bX4).less hb.size))
                   have f5 : ∃ q c, v5 = .slice q (nv + 1) c := by
                     rcases own5.2 with ⟨h1, h2⟩ | ⟨g, cap, cur, h1, _⟩
                     · omega
                     · exact ⟨_, _, h1⟩
                   have hb5 : Below V.heap.size V X5 := (ab_trans hb2 bX4).trans ((grown_frm g5).below (ab_trans hb2 bX4).size (fun k hk => (hVs4.own.lt k hk).1))
                   clear g5 at5 own5 own4 hVs4
                   obtain ⟨q5, c5, e5⟩ := f5
                   subst e5
                   go_frame))
              exact ⟨⟨k + 1, f, q5, c5, nv + 1, _, by omega, rfl, rfl, rfl, by rw [List.length_append, hvl]; rfl, by omega, HFr'.out, hVs5, hb5⟩, by simp only [intOf]; omega⟩
          · have z3 : ((Q.st : Int) != 3) = true := by simp only [bne_iff_ne, ne_eq]; omega
            have HFr' : Hid (FrI S (k + 1) f) := fr_no HFr.out hQ (fun h => absurd h s3)
            clear s3 HFr
            go_wp2_with fail
            exact ⟨⟨k + 1, f, qv, cv, nv, vs, by omega, rfl, rfl, rfl, hvl, by omega, HFr'.out, hVs, hb⟩, by simp only [intOf]; omega⟩
    · have hjn : j < n := by omega
      have hji : (j : Int) < (n : Int) := by omega
      clear cj
      have hlen2 := Z1.len
      obtain ⟨⟨kd, wh, nm, k, vo, xo, vn, xn⟩, ho⟩ : ∃ o, os[j]? = some o := ⟨os[j]'(by omega), List.getElem?_eq_getElem _⟩
      have hg := Z1.lt (by omega)
      obtain ⟨d0, d1, d2, d3, d4, d5, -, -⟩ := (Z1.row j _ ho).keep hg hb
      have so := (Z1.row j _ ho).svo
      have sn := (Z1.row j _ ho).svn
      obtain rfl := Z1.ptr (by omega)
      have hfit := Z1.fits
      have hmx := Z1.max
      dsimp only at d0 d1 d2 d3 d4 d5 so sn
      obtain ⟨q1, c1, e⟩ := so.form
      obtain ⟨q2, c2, e'⟩ := sn.form
      subst e
      subst e'
      obtain ⟨n1, hn1⟩ : ∃ n, xo.length = n := ⟨_, rfl⟩
      obtain ⟨n2, hn2⟩ : ∃ n, xn.length = n := ⟨_, rfl⟩
      rw [hn1] at d4 so
      rw [hn2] at d5 sn
      by_cases k0 : kd = 0
      · have z0 : (kd == 0) = true := by rw [k0]; rfl
        have HK0 : Hid (kd = 0) := k0
        clear k0
        go_upto_region 11 with fail
        obtain ⟨V, hE, hO, hIb, hbV⟩ := blk2 wr (acC kd wh nm 2 (.slice none 0 0) (.slice (some ⟨wr.heap.size + 1, 0, none⟩) 1 1)) #[.int .i64 (j : Int)] 52 3
        rw [show (wr.alloc (.cells _ 52)).alloc (.cells _ 3) = V from hE]
        clear hE d0 d1 d2 d3 d4 d5 so sn
        have y0 := hO.at (i := 0) rfl
        have y1 := hO.at (i := 1) rfl
        have y2 := hO.at (i := 2) rfl
        have y3 := hO.at (i := 3) rfl
        have y4 := hO.at (i := 4) rfl
        have y5 := hO.at (i := 5) rfl
        have hAV := hA.keep hbV
        have hbb := ab_trans hb hbV
        have hio : Io V W1.heap.size (.slice (some ⟨wr.heap.size + 1, 0, none⟩) 1 1) [(j : Int)] := ⟨rfl, .inr ⟨wr.heap.size + 1, 1, #[.int .i64 (j : Int)], rfl, by have := hb.size; omega, hIb, Nat.le_refl _, by unfold maxLen; omega, rfl, rfl⟩⟩
        have HIO : Hid (Io V W1.heap.size (.slice (some ⟨wr.heap.size + 1, 0, none⟩) 1 1) [(j : Int)]) := hio
        clear hio hIb
        go_wp2_with (first
          | (refine bs_ac1 rfl rfl kd wh nm 2 none (some ⟨wr.heap.size + 1, 0, none⟩) 0 1 0 1 (by simp only [List.map_toArray, List.map_cons, List.map_nil]; rfl) ?_; intro X2 hX2 bX2; have hA2 := hAV.keep bX2; have own2 := hA2.own; rw [hol] at own2; go_frame)
          | (refine app_ac rfl rfl ⟨kd, wh, nm, 2, .slice none 0 0, [], .slice (some ⟨wr.heap.size + 1, 0, none⟩) 1 1, [(j : Int)]⟩ (v := .slice q' j c') rfl own2 rfl hX2 ⟨_, _, _, rfl⟩ ⟨_, _, _, rfl⟩ (by omega) (ab_trans hbb bX2).size ?_
             intro v3 X3 own3 g3 at3
             have hA3 := hA2.more (x := ⟨kd, wh, nm, 2, .slice none 0 0, [], .slice (some ⟨wr.heap.size + 1, 0, none⟩) 1 1, [(j : Int)]⟩) g3 (by rw [hol]; exact own3) ⟨Im.nil _ _ _, .inl (HIO.out.keep bX2)⟩ (fun h => ⟨rfl, rfl, rfl⟩)
             have f3 : ∃ q c, v3 = .slice q (j + 1) c := by
               rcases own3.2 with ⟨h1, h2⟩ | ⟨g, cap, cur, h1, _⟩
               · omega
               · exact ⟨_, _, h1⟩
             have hb3 : Below W1.heap.size W1 X3 := (ab_trans hbb bX2).trans ((grown_frm g3).below (ab_trans hbb bX2).size (fun k hk => (hA2.own.lt k hk).1))
             clear g3 at3 own3 own2 hA2
             obtain ⟨q3, c3, e3⟩ := f3
             subst e3
             go_frame))
        exact ⟨⟨j + 1, c3, q3, _, by omega, rfl, rfl, by rw [List.length_append, hol]; rfl, hA3, hb3⟩, by simp only [intOf]; omega⟩
      · have z0 : (kd == 0) = false := by simp [k0]
        have HK0 : Hid (¬ kd = 0) := k0
        clear k0
        go_upto_region 11 with fail
        obtain ⟨V, hE, hO, hbV⟩ := blk1 wr (acC kd wh nm k (.slice q1 n1 c1) (.slice q2 n2 c2)) 52
        rw [show wr.alloc (.cells _ 52) = V from hE]
        clear hE d0 d1 d2 d3 d4 d5
        have y0 := hO.at (i := 0) rfl
        have y1 := hO.at (i := 1) rfl
        have y2 := hO.at (i := 2) rfl
        have y3 := hO.at (i := 3) rfl
        have y4 := hO.at (i := 4) rfl
        have y5 := hO.at (i := 5) rfl
        have hAV := hA.keep hbV
        have hbb := ab_trans hb hbV
        go_wp2_with (first
          | (refine bs_ac1 rfl rfl kd wh nm k q1 q2 n1 n2 c1 c2 (by simp only [List.map_toArray, List.map_cons, List.map_nil]; rfl) ?_; intro X2 hX2 bX2; have hA2 := hAV.keep bX2; have own2 := hA2.own; rw [hol] at own2; go_frame)
          | (refine app_ac rfl rfl ⟨kd, wh, nm, k, .slice q1 n1 c1, xo, .slice q2 n2 c2, xn⟩ (v := .slice q' j c') rfl own2 rfl hX2 ⟨_, _, _, rfl⟩ ⟨_, _, _, rfl⟩ (by omega) (ab_trans hbb bX2).size ?_
             intro v3 X3 own3 g3 at3
             have hA3 := hA2.more (x := ⟨kd, wh, nm, k, .slice q1 n1 c1, xo, .slice q2 n2 c2, xn⟩) g3 (by rw [hol]; exact own3) ⟨.inr so, .inr sn⟩ (fun h => absurd h HK0.out)
             have f3 : ∃ q c, v3 = .slice q (j + 1) c := by
               rcases own3.2 with ⟨h1, h2⟩ | ⟨g, cap, cur, h1, _⟩
               · omega
               · exact ⟨_, _, h1⟩
             have hb3 : Below W1.heap.size W1 X3 := (ab_trans hbb bX2).trans ((grown_frm g3).below (ab_trans hbb bX2).size (fun k hk => (hA2.own.lt k hk).1))
             clear g3 at3 own3 own2 hA2
             obtain ⟨q3, c3, e3⟩ := f3
             subst e3
             go_frame))
        exact ⟨⟨j + 1, c3, q3, _, by omega, rfl, rfl, by rw [List.length_append, hol]; rfl, hA3, hb3⟩, by simp only [intOf]; omega⟩
theorem own : ownKnob Try.prog.godebug = none := by kernel_rfl
theorem laidOut : laidOutB Try.prog = true := by kernel_rfl

set_option maxRecDepth 100000 in
theorem lifted (os : Os) (started : os.Started) (H : Type) (enc : TypeId × Value → H) :
    ReturnsInHanded {} Try.checked os 5 .any (Rows.roundOnceSpec.pre6 enc Try.prog Try.f5 Rows.roundOnceRow.domain false) (Rows.roundOnceSpec.post enc Try.prog Try.f5 false true false false) := by
  refine returnsInHanded_of_change_sized (C := Try.checked) own started (by kernel_rfl) Try.func5
    (ChangeSpec.witness6 (enc := enc) (C := Try.checked) false ⟨#[], #[.int .i64 0, .slice none 0 0], []⟩ 8 (by kernel_rfl) (by kernel_rfl) (by kernel_rfl) (by kernel_rfl)) ?_
  intro W base args ds gs before hval0 hW hcnd hsz _
  have hval : ∀ (j : Nat) t v, Try.f5.params[j]? = some t → args[j]? = some v → Value.okWide Try.prog W .any base t v := hval0
  have hW' := hW
  obtain ⟨p, q, hA0, hV, rfl, hfz, hnd⟩ := hW
  have hA : DataW.TrodAll enc Try.prog W 0 (fun _ => true) true Try.f5.params.toList args.toList ds p := hA0
  rw [Try.params5] at hA hval
  obtain ⟨v0, vs0, d0, ds0, p0, q0, hargs, rfl, rfl, h0, r0⟩ := trodAll_cons hA
  obtain ⟨v1, vs1, d1, ds1, p1, q1, rfl, rfl, rfl, h1, r1⟩ := trodAll_cons r0
  obtain ⟨rfl, rfl, rfl⟩ := trodAll_nil r1
  obtain rfl : args = #[v0, v1] := by cases args; simp_all
  obtain ⟨rfl, rfl⟩ := trodVars_none hV
  have k0 := h0
  have lt0 : ∀ x ∈ p0, x.block < W.heap.size := by obtain ⟨m, hm⟩ := k0; exact DataW.trod_lt m _ _ _ hm
  have k1 := h1
  have lt1 : ∀ x ∈ p1, x.block < W.heap.size := by obtain ⟨m, hm⟩ := k1; exact DataW.trod_lt m _ _ _ hm
  obtain ⟨a0, rfl, rfl, rfl, w0⟩ := open_int Try.underlying3 (hval 0 3 v0 rfl rfl) h0
  obtain ⟨sq1_, sn1_, sk1_, sg1_, so1_, os1_, rfl, Z1_⟩ := open_acts (hval 1 32 v1 rfl rfl) h1 (fun n hn => by simpa using List.all_eq_true.1 hsz n (DataW.weights_mem_each (j := 1) (t := 32) (by kernel_rfl) rfl n hn))
  clear hA0 hval0
  refine (walk a0 (bounds_i64 w0) sq1_ sn1_ sk1_ sg1_ so1_ os1_ Z1_).mono fun e W' ⟨he, bel⟩ => ?_
  subst he
  exact ⟨_, rfl, _, _, _, [], _, [], hW', trodAll_mk1 (shut_bool Try.underlying4 _), (trodAll_cons_mk (Below.trod laidOut (by kernel_rfl) (of_decide_eq_true (by kernel_rfl)) k0 bel lt0) (trodAll_cons_mk (Below.trod laidOut (by kernel_rfl) (of_decide_eq_true (by kernel_rfl)) k1 bel lt1) trodAll_mk0)), rfl, bel.frame _, fun h => by cases h⟩

theorem over : Rows.roundOnceRow.holds Try.pinned (OpenSpec.ofChange Rows.roundOnceSpec) :=
  OpenClaim.holds_of_wide 5 Try.f5 rfl rfl rfl rfl rfl rfl rfl ⟨rfl, rfl, rfl, rfl, rfl⟩ rfl rfl rfl rfl rfl (by kernel_rfl) Try.func5 (by kernel_rfl)
    (of_decide_eq_true (by kernel_rfl)) (by unfold Func.isWrapper; first | (rw [if_pos (by decide +kernel)]; kernel_rfl) | (rw [if_neg (by decide +kernel)]; exact ⟨rfl, rfl⟩))
    (fun os started H enc _ => lifted os started H enc)

theorem proved : Rows.RoundOnceSaid := over
end Go.Proofs.Ytodmhohccclhmaa.roundOnce
namespace Go.Proofs.Ytodmhohccclhmaa
theorem roundOnce_holds : Rows.RoundOnceSaid := roundOnce.proved
#print axioms roundOnce_holds
end Go.Proofs.Ytodmhohccclhmaa
