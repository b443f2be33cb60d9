/-
  A net runs.
-/
import Derived.Test.YtodmhohccclhmaaPk31
import Derived.Test.YtodmhohccclhmaaPk32
namespace Go.Proofs.Ytodmhohccclhmaa
open Go.RowKit
set_option linter.unusedVariables false
set_option maxRecDepth 100000

/-- 'int(uint(x) % n)' -/
theorem mod_nat11 (x : Int) (n : Int) (h0 : 0 < n) (h1 : n ≤ 4096) : ∃ k : Nat, (k : Int) < n ∧ wrap64 ((IntKind.u64.wrap x).tmod n) = (k : Int) := by
  have hx : 0 ≤ IntKind.u64.wrap x := by rw [IntKind.wrap_u64]; omega
  have he : (IntKind.u64.wrap x).tmod n = IntKind.u64.wrap x % n := Int.tmod_eq_emod_of_nonneg hx
  have h2 := Int.emod_nonneg (IntKind.u64.wrap x) (show n ≠ 0 by omega)
  have h3 := Int.emod_lt_of_pos (IntKind.u64.wrap x) h0
  refine ⟨(IntKind.u64.wrap x % n).toNat, by omega, ?_⟩
  rw [he, Int.toNat_of_nonneg h2]
  generalize IntKind.u64.wrap x % n = r at *
  unfold wrap64
  omega
theorem Nw.letter {W0 W : World} {B wb : Nat} {P : NwP} {S : Net} (h : Nw W0 W B wb P S) {i : Nat} (hi : i < S.lt.length) :
    ∃ gl cl l, P.lv = .slice (some ⟨gl, 0, none⟩) S.lt.length cl ∧ S.lt.length ≤ cl ∧ cl ≤ 9223372036854775807 ∧ P.lds[i]? = some l ∧ gl < W.heap.size ∧ ∀ V, Below W.heap.size W V → ∀ j u, (P.lds.flatMap encL)[j]? = some u → V.cell? ⟨gl, j, none⟩ = some u := by
  obtain ⟨t, ht⟩ : ∃ t, P.lds[i]? = some t := ⟨P.lds[i]'(by rw [h.size.2.2]; exact hi), List.getElem?_eq_getElem _⟩
  have hne : P.lv ≠ .slice none 0 0 := fun e => by
    rcases h.lts.2 with ⟨-, e2⟩ | ⟨g, cap, cur, e2, _⟩
    · omega
    · rw [e] at e2; cases e2
  obtain ⟨gd, cd, e, h1, h2, h3, h4, h5⟩ := own_cells h.lts hne
  exact ⟨gd, cd, t, e, h3, by unfold maxLen at h4; omega, ht, h2, fun V hb j u hj => keep_cell hb (h5 j _ hj) h2⟩
theorem src_take {ls : List LD} {i j : Nat} {u : Value} (h : ((ls.take i).flatMap encL)[j]? = some u) : (ls.flatMap encL)[j]? = some u := by
  rw [← fl_take encL_len, List.getElem?_take] at h
  split at h
  · exact h
  · cases h
theorem src_drop {ls : List LD} {i j : Nat} {u : Value} (h : ((ls.drop i).flatMap encL)[j]? = some u) : (ls.flatMap encL)[i * 17 + j]? = some u := by
  rw [← fl_drop encL_len, List.getElem?_drop] at h
  exact h
theorem bslt0 (w : World) : (Instr.buildSlice 41 0 #[]).run Try.prog w = .ok (.slice (some ⟨w.heap.size, 0, none⟩) 0 0) (w.alloc (.cells #[] 76)) := by kernel_rfl
section
variable {ops : Array Oper} {rest : List Oper} {o : Oper} {a : Act} {w : World} {Q : Exit → Act → World → Prop}
theorem bs_lt0 (A : World) (hw : Region.wanted o (yielded ops a.tmps) = true) {parts : Array (Nat × Operand)} (ho : o.op = .buildSlice 41 0 parts) (hl : parts.map (fun (i, x) => (i, a.eval x)) = #[]) (hA : A.heap.size ≤ w.heap.size)
    (h : ∀ W', W'.ownsRow A.heap.size 76 17 (.slice (some ⟨w.heap.size, 0, none⟩) 0 0) 0 [] → Below w.heap.size w W' → wpList Try.prog ops Q rest (a.put o.dst (.slice (some ⟨w.heap.size, 0, none⟩) 0 0)) W') : wpList Try.prog ops Q (o :: rest) a w := by
  unfold wpList
  rw [if_pos hw]
  left
  unfold Oper.wp execOp
  simp only [ho, Sem.run_bind, hl, bslt0, Result.andThen_ok]
  exact h _ (own_empty w A 76 17 hA) ((Below.refl _ _).alloc (Nat.le_refl _) _)
theorem app_lts (hw : Region.wanted o (yielded ops a.tmps) = true) {s x : Operand} (ho : o.op = .call { callee := .builtin .append, args := #[s, x], argTypes := #[41, 41] })
    {v : Value} {N B m c : Nat} {ad : Addr} {lds : List LD} (ls : List LD) (hs : a.eval s = v) (hown : w.ownsRow B 76 17 v N (lds.flatMap encL)) (hx : a.eval x = .slice (some ad) m c) (hsrc : ∀ j u, (ls.flatMap encL)[j]? = some u → w.cell? (ad.add j) = some u) (hone : ∀ l ∈ ls, (∃ q n c, l.rv = .slice q n c) ∧ ∃ q n c, l.vv = .slice q n c) (hm : ls.length = m) (hk : N + m ≤ 8000) (hB : B ≤ w.heap.size)
    (h : ∀ v' w', w'.ownsRow B 76 17 v' (N + m) ((lds ++ ls).flatMap encL) → w.grownBy w' v.ownBlock → (v'.ownBlock = v.ownBlock ∨ v'.ownBlock = some w.heap.size) → wpList Try.prog ops Q rest (a.put o.dst v') w') : wpList Try.prog ops Q (o :: rest) a w := by
  unfold wpList
  rw [if_pos hw]
  left
  exact appLtW o.dst rfl ho ls hs hown hx hsrc hone hm hk hB h
end
theorem sizeLt (w : World) : (sizeOf (Try.prog.elem 41)).run Try.prog w = .ok 17 w := by kernel_rfl
theorem eltLt : Try.prog.underlying 41 = some (.slice (Try.prog.elem 41)) := by kernel_rfl
section
variable {ops : Array Oper} {rest : List Oper} {o : Oper} {a : Act} {w : World} {Q : Exit → Act → World → Prop}
theorem sli_lt (hw : Region.wanted o (yielded ops a.tmps) = true) {x y : Operand} (ho : o.op = .slice 41 x (some y) none none) {gl n cap : Nat} {I : Int} {ki : IntKind} (i : Nat) (V : World) (ls : List LD)
    (hx : a.eval x = .slice (some ⟨gl, 0, none⟩) n cap) (hy : a.eval y = .int ki I) (hI : I = (i : Int)) (h1 : i ≤ n) (h2 : n ≤ cap) (hl : ls.length = n) (hsrc : ∀ j u, (ls.flatMap encL)[j]? = some u → V.cell? ⟨gl, j, none⟩ = some u)
    (hK : ∀ ad : Addr, (∀ j u, ((ls.drop i).flatMap encL)[j]? = some u → V.cell? (ad.add j) = some u) → wpList Try.prog ops Q rest (a.put o.dst (.slice (some ad) (n - i) (cap - i))) w) : wpList Try.prog ops Q (o :: rest) a w := by
  subst hI
  have hr : (execOp a.eval o).run Try.prog w = .ok (.value (sliced (some ⟨gl, 0, none⟩) i n cap 17)) w := by
    unfold execOp
    simp only [ho, hx, hy, Option.map_some, Option.map_none, Sem.run_bind, run_sliceAt_slice w 41 _ _ _ _ eltLt, run_slice_l w 41 (some ⟨gl, 0, none⟩) n cap eltLt _ (i : Int) (by omega) (by omega), sizeLt, Result.andThen_ok, Sem.run_pure, Int.toNat_natCast]
  by_cases hc : cap = i
  · have hd : ls.drop i = [] := List.drop_eq_nil_of_le (by omega)
    refine valS hw _ hr ?_
    unfold sliced
    rw [if_pos hc]
    exact hK _ (fun j u hu => by rw [hd] at hu; cases hu)
  · refine valS hw _ hr ?_
    unfold sliced
    rw [if_neg hc]
    exact hK _ (fun j u hu => by have := hsrc _ _ (src_drop hu); rw [add_plain _ (show (Addr.add ⟨gl, 0, none⟩ (i * 17)).spot = none by rw [add_plain _ rfl]), add_plain _ rfl]; simpa using this)
end
theorem lt_sub {acc : Nat → Nat → Prop} {S : Net} (h : Inv acc S) {ls : List Lt} {l : Lt} (hl : l ∈ S.lt) : ∃ R, ({ S with lt := ls } : Net).rd[l.r]? = some R ∧ LtOK acc { S with lt := ls } l R := by
  have g : RGrow S { S with lt := ls } := RGrow.same rfl
  obtain ⟨R, hR, ho⟩ := h.lts l hl
  exact ⟨R, hR, ho.grow g rfl rfl (fun t => ⟨t, rfl⟩) (Nat.le_refl _) (fun x hx => ⟨x, hx, leK_refl _⟩) (fun _ j Q hj _ => .inl hj) (fun _ _ e => e) (fun j hj => h.accd _ j hj)⟩
abbrev acC (kd wh nm k : Int) (vo vn : Value) : Array Value := #[.int .i64 kd, .int .i64 wh, .int .i64 nm, .int .i64 k, vo, vn]
/-- What a net is behind some acts. -/
def Run (W0 w : World) (wb : Nat) (n : Nat) (Pc : Cg → Prop) (m : Nat) (wr : World) : Prop := ∃ (P' : NwP) (S' : Net) (acc' : Nat → Nat → Prop), Nw W0 wr W0.heap.size wb P' S' ∧ Inv acc' S' ∧ S'.n = n ∧ S'.rd.length ≤ 30 ∧ S'.lt.length ≤ m ∧ (∀ R ∈ S'.rd, Pc R.c) ∧ Below W0.heap.size w wr
set_option maxHeartbeats 4000000 in
theorem nrun_any (W0 : World) (wb : Nat) (P : NwP) (S : Net) (acc : Nat → Nat → Prop) (q : Option Addr) (n cap g off : Nat) (os : List AcD) (Pc : Cg → Prop) (w : World) (h : Nw W0 w W0.heap.size wb P S) (hI : Inv acc S) (Z : AcRow W0 q n cap g off os) (hn : n ≤ 400) (hg : ∀ x ∈ os, x.kd = 0 → gdG ⟨x.k, x.o, x.n⟩ = true ∧ Pc ⟨x.k, x.o, x.n⟩) (hrd : S.rd = []) (hlt : S.lt = []) :
    Calls Try.prog 11 #[nptr wb, .slice q n cap] w fun e w' => e = .returned (.bool true) ∧ Run W0 w wb S.n Pc 2000 w' := by
  have HG : Hid (∀ x ∈ os, x.kd = 0 → gdG ⟨x.k, x.o, x.n⟩ = true ∧ Pc ⟨x.k, x.o, x.n⟩) := hg
  have h0 : Run W0 w wb S.n Pc 0 w := ⟨P, S, acc, h, hI, rfl, by rw [hrd]; exact Nat.zero_le _, by rw [hlt]; exact Nat.le_refl _, by rw [hrd]; exact fun R hR => (by cases hR), (Below.refl _ _)⟩
  clear hg h hI hrd hlt
  obtain ⟨N, hN⟩ : ∃ N, S.n = N := ⟨_, rfl⟩
  rw [hN] at h0 ⊢
  clear hN
  go_enter Try.func11, Try.ntmps11
  go_wp2_with fail
  go_loopw [12] (fun iv wr => ∃ (j : Nat), j ≤ n ∧ iv = .int .i64 (j : Int) ∧ Run W0 w wb N Pc (5 * j) wr) (fun iv _ => n - (intOf iv).toNat)
  case atStart => exact ⟨0, by omega, rfl, h0⟩
  case round =>
    obtain ⟨j, hj, rfl, hrun⟩ := hrel
    clear h0
    by_cases cj : j = n
    · have i9 : ¬ (j : Int) < (n : Int) := by omega
      have i10 : ¬ j < n := by omega
      clear cj
      go_wp2_with fail
      go_ret
      obtain ⟨P', S', acc', hN, hI, e1, e2, e3, e4, e5⟩ := hrun
      exact ⟨rfl, P', S', acc', hN, hI, e1, e2, by omega, e4, e5⟩
    · have hjn : j < n := by omega
      have hji : (j : Int) < (n : Int) := by omega
      have hlen2 := Z.len
      obtain ⟨P', S', acc', hN, hI, eN, e30, e5j, ePc, hbr⟩ := hrun
      have HPc : Hid (∀ R ∈ S'.rd, Pc R.c) := ePc
      clear ePc
      obtain ⟨⟨kd, wh, nm, k, vo, xo, vn, xn⟩, ho⟩ : ∃ o, os[j]? = some o := ⟨os[j]'(by omega), List.getElem?_eq_getElem _⟩
      have hx := HG.out _ (List.mem_of_getElem? ho)
      dsimp only at hx
      have HX : Hid (kd = 0 → gdG ⟨k, xo, xn⟩ = true ∧ Pc ⟨k, xo, xn⟩) := hx
      clear hx
      have hg := Z.lt (by omega)
      obtain ⟨d0, d1, d2, d3, d4, d5, so, sn⟩ := (Z.row j _ ho).keep hg hN.old
      have so0 := (Z.row j _ ho).svo
      have sn0 := (Z.row j _ ho).svn
      obtain rfl := Z.ptr (by omega)
      have hfit := Z.fits
      have hmx := Z.max
      dsimp only at d0 d1 d2 d3 d4 d5 so sn so0 sn0
      clear so sn
      obtain ⟨q1, c1, e⟩ := so0.form
      obtain ⟨q2, c2, e'⟩ := sn0.form
      subst e
      subst e'
      obtain ⟨n1, hn1⟩ : ∃ n, xo.length = n := ⟨_, rfl⟩
      obtain ⟨n2, hn2⟩ : ∃ n, xn.length = n := ⟨_, rfl⟩
      rw [hn1] at d4 so0
      rw [hn2] at d5 sn0
      go_upto_region 4 with fail
      obtain ⟨V, hE, hO, hbV⟩ := blk1 wr (acC kd wh nm k (.slice q1 n1 c1) (.slice q2 n2 c2)) 52
      rw [show wr.alloc (.cells _ 52) = V from hE]
      clear hE d0 d1 d2 d3 d4 d5
      have hNV := hN.keep hbV
      have hbrV : Below W0.heap.size w V := hbr.trans (hbV.mono hN.lB)
      have y0 := hO.cellV (i := 0) rfl
      have y1 := hO.cellV (i := 1) rfl
      have y2 := hO.cellV (i := 2) rfl
      have y3 := hO.cellV (i := 3) rfl
      have y4 := hO.cellV (i := 4) rfl
      have y5 := hO.cellV (i := 5) rfl
      obtain ⟨-, e1, -, e12, hfz, hwl⟩ := hNV.cells
      obtain ⟨qd, cd, ed⟩ := hNV.roundsF
      obtain ⟨ql, cl, el⟩ := hNV.letters
      rw [ed] at e1
      rw [el] at e12
      have hbv := Below.refl V.heap.size V
      by_cases k0 : kd = 0
      · have z0 : (kd == 0) = true := by rw [k0]; rfl
        have HK := HX.out k0
        have HK : Hid (gdG ⟨k, xo, xn⟩ = true ∧ Pc ⟨k, xo, xn⟩) := HK
        clear k0
        as_aux_lemma =>
          obtain ⟨m, hm3, hme⟩ := mod_nat11 wh 3 (by omega) (by omega)
          have Hme : Hid (wrap64 ((IntKind.u64.wrap wh).tmod 3) = (m : Int)) := hme
          clear hme
          by_cases r30 : S'.rd.length < 30
          · have r30i : (S'.rd.length : Int) < 30 := by omega
            go_wp2_with fail
            rw [Hme.out]
            refine (nbegin_any W0 wb P' S' acc' m ⟨k, .slice q1 n1 c1, xo, .slice q2 n2 c2, xn⟩ V hNV hI (by omega) HK.out.1 so0 sn0 (by omega) (by omega)).mono ?_
            rintro e W2 ⟨rfl, P2, S2, acc2, b, hN2, hI2, en2, r2, l2, b2⟩
            clear y0 y1 y2 y3 y4 y5 e1 e12 hbv
            go_wp2_with fail
            refine ⟨⟨j + 1, by omega, rfl, P2, S2, acc2, hN2, hI2, en2.trans eN, ?_, by omega, fun R hR => ?_, hbrV.trans b2⟩, by simp only [intOf]; omega⟩
            · rw [r2, List.length_append]
              show S'.rd.length + 1 ≤ 30
              omega
            · rw [r2] at hR
              rcases List.mem_append.1 hR with e | e
              · exact HPc.out R e
              · rw [List.mem_singleton.1 e]
                exact HK.out.2
          · have r30i : ¬ (S'.rd.length : Int) < 30 := by omega
            go_wp2_with fail
            exact ⟨⟨j + 1, by omega, rfl, P', S', acc', hNV, hI, eN, e30, by omega, HPc.out, hbrV⟩, by simp only [intOf]; omega⟩
      · have z0 : (kd == 0) = false := by simp [k0]
        by_cases l0 : S'.lt.length = 0
        · have zl : ((S'.lt.length : Int) == 0) = true := by rw [l0]; rfl
          have Hl0 : Hid (S'.lt.length = 0) := l0
          clear l0
          go_wp2_with fail
          exact ⟨⟨j + 1, by omega, rfl, P', S', acc', hNV, hI, eN, e30, by omega, HPc.out, hbrV⟩, by simp only [intOf]; omega⟩
        · have zl : ((S'.lt.length : Int) == 0) = false := by rw [beq_eq_false_iff_ne]; omega
          have lp : 0 < S'.lt.length := by omega
          have lpi : ¬ (S'.lt.length : Int) = 0 := by omega
          have lp0 : (0 : Int) < (S'.lt.length : Int) := by omega
          obtain ⟨i, hil, hie⟩ := mod_nat11 nm (S'.lt.length : Int) (by omega) (by omega)
          have Hie : Hid (wrap64 ((IntKind.u64.wrap nm).tmod (S'.lt.length : Int)) = (i : Int)) := hie
          clear hie
          have hin : i < S'.lt.length := by omega
          go_upto_region 8 with fail
          have k2 : ∀ y : Cls V, y.val.cell? ⟨wr.heap.size, 2, none⟩ = some (.int .i64 nm) := fun y => y2 _ y.prop
          have k12 : ∀ y : Cls V, y.val.cell? ⟨wb, 12, none⟩ = some (.slice ql S'.lt.length cl) := fun y => e12 _ y.prop
          have HZ := cls_some V
          refine wp_region_below (by kernel_rfl) (by kernel_rfl) ?_
          repeat (go_big_quiet_step (fail))
          refine wpQuiet_nil ?_
          rintro _ ⟨y, rfl⟩
          obtain ⟨V4, b4⟩ := y
          dsimp only
          clear k2 k12 HZ
          rw [Hie.out]
          have hN4 := hNV.keep b4
          have hO4 := hO.keep b4
          have hbr4 : Below W0.heap.size w V4 := hbrV.trans (b4.mono hNV.lB)
          obtain ⟨gl, cl', ⟨lkd, lr, lk, lb, lg, lp', la, rv, ll, vv, lm⟩, el', hcl1, hcl2, hld, hgl, hsrc⟩ := hN4.letter hin
          have hqq : ql = some ⟨gl, 0, none⟩ ∧ cl = cl' := by rw [el] at el'; injection el' with a1 a2 a3; exact ⟨a1, a3⟩
          obtain ⟨rfl, rfl⟩ := hqq
          have hlm := hN4.lti _ (List.mem_of_getElem? hld)
          dsimp only at hlm
          obtain ⟨q3, c3, er⟩ := hlm.1.form
          obtain ⟨q4, c4, ev⟩ := hlm.2.form
          subst er
          subst ev
          obtain ⟨n3, hn3⟩ : ∃ n, ll.length = n := ⟨_, rfl⟩
          obtain ⟨n4, hn4⟩ : ∃ n, lm.length = n := ⟨_, rfl⟩
          rw [hn3, hn4] at hld
          rw [hn3] at hlm
          rw [hn4] at hlm
          clear y0 y1 y2 y3 y4 y5 e1 e12 hbv
          have HS : Hid (∀ U, Below V4.heap.size V4 U → ∀ j u, (P'.lds.flatMap encL)[j]? = some u → U.cell? ⟨gl, j, none⟩ = some u) := hsrc
          have C : ∀ c v, c < 17 → (encL ⟨lkd, lr, lk, lb, lg, lp', la, .slice q3 n3 c3, ll, .slice q4 n4 c4, lm⟩)[c]? = some v → V4.cell? ⟨gl, i * 17 + c, none⟩ = some v := fun c v hc hv => hsrc V4 (Below.refl _ _) _ _ (by rw [fl_at encL_len hld hc]; exact hv)
          clear hsrc
          have x0 : V4.cell? ⟨gl, i * 17, none⟩ = some (.int .i64 (lkd : Int)) := C 0 _ (by omega) rfl
          have x1 : V4.cell? ⟨gl, i * 17 + 1, none⟩ = some (.int .i64 (lr : Int)) := C 1 _ (by omega) rfl
          have x2 : V4.cell? ⟨gl, i * 17 + 2, none⟩ = some (.int .i64 (lk : Int)) := C 2 _ (by omega) rfl
          have x3 : V4.cell? ⟨gl, i * 17 + 3, none⟩ = some (.int .i64 lb.n) := C 3 _ (by omega) rfl
          have x4 : V4.cell? ⟨gl, i * 17 + 4, none⟩ = some (.int .i64 lb.nd) := C 4 _ (by omega) rfl
          have x5 : V4.cell? ⟨gl, i * 17 + 5, none⟩ = some (.int .i64 lb.lf) := C 5 _ (by omega) rfl
          have x6 : V4.cell? ⟨gl, i * 17 + 6, none⟩ = some (.int .i64 lg.n) := C 6 _ (by omega) rfl
          have x7 : V4.cell? ⟨gl, i * 17 + 7, none⟩ = some (.int .i64 lg.nd) := C 7 _ (by omega) rfl
          have x8 : V4.cell? ⟨gl, i * 17 + 8, none⟩ = some (.int .i64 lg.lf) := C 8 _ (by omega) rfl
          have x9 : V4.cell? ⟨gl, i * 17 + 9, none⟩ = some (.int .i64 lp'.n) := C 9 _ (by omega) rfl
          have x10 : V4.cell? ⟨gl, i * 17 + 10, none⟩ = some (.int .i64 lp'.nd) := C 10 _ (by omega) rfl
          have x11 : V4.cell? ⟨gl, i * 17 + 11, none⟩ = some (.int .i64 lp'.lf) := C 11 _ (by omega) rfl
          have x12 : V4.cell? ⟨gl, i * 17 + 12, none⟩ = some (.int .i64 la.n) := C 12 _ (by omega) rfl
          have x13 : V4.cell? ⟨gl, i * 17 + 13, none⟩ = some (.int .i64 la.nd) := C 13 _ (by omega) rfl
          have x14 : V4.cell? ⟨gl, i * 17 + 14, none⟩ = some (.int .i64 la.lf) := C 14 _ (by omega) rfl
          have x15 : V4.cell? ⟨gl, i * 17 + 15, none⟩ = some (.slice q3 n3 c3) := C 15 _ (by omega) rfl
          have x16 : V4.cell? ⟨gl, i * 17 + 16, none⟩ = some (.slice q4 n4 c4) := C 16 _ (by omega) rfl
          have m12 : V4.cell? ⟨wb, 12, none⟩ = some (.slice (some ⟨gl, 0, none⟩) S'.lt.length cl) := by rw [hN4.cells.2.2.2.1 V4 (Below.refl _ _), el]
          clear C
          go_upto_region 10 with fail
          obtain ⟨V5, hE5, hL5, b5⟩ := blk1 V4 (lV (lkd : Int) (lr : Int) (lk : Int) lb lg lp' la (.slice q3 n3 c3) (.slice q4 n4 c4)) 76
          rw [show V4.alloc (.cells _ 76) = V5 from hE5]
          clear hE5 x0 x1 x2 x3 x4 x5 x6 x7 x8 x9 x10 x11 x12 x13 x14 x15 x16 m12
          have hN5 := hN4.keep b5
          have hO5 := hO4.keep b5
          have hbr5 : Below W0.heap.size w V5 := hbr4.trans (b5.mono hN4.lB)
          have HS5 : Hid (∀ U, Below V5.heap.size V5 U → ∀ j u, (P'.lds.flatMap encL)[j]? = some u → U.cell? ⟨gl, j, none⟩ = some u) := fun U hb => HS.out U (ab_trans b5 hb)
          have hlin : ltOf ⟨lkd, lr, lk, lb, lg, lp', la, .slice q3 n3 c3, ll, .slice q4 n4 c4, lm⟩ ∈ S'.lt := by rw [← hN4.ltm]; exact List.mem_map_of_mem (List.mem_of_getElem? hld)
          have y0 := hO5.cellV (i := 0) rfl
          obtain ⟨-, -, -, e12, hfz5, hwl5⟩ := hN5.cells
          rw [el] at e12
          have hbv := Below.refl V5.heap.size V5
          have hm5 : Im W0 V5 W0.heap.size (.slice q3 n3 c3) ll ∧ Im W0 V5 W0.heap.size (.slice q4 n4 c4) lm := ⟨hlm.1.frm (X := fun _ => False) (frm_below b5) (noI_false _), hlm.2.frm (X := fun _ => False) (frm_below b5) (noI_false _)⟩
          by_cases kk2 : kd = 2
          · have z2 : (kd == 2) = true := by rw [kk2]; rfl
            clear kk2
            as_aux_lemma =>
              by_cases l3 : S'.lt.length < 300
              · have l3i : (S'.lt.length : Int) < 300 := by omega
                have D : ∀ U, Below V5.heap.size V5 U → Blk U V4.heap.size (lV (lkd : Int) (lr : Int) (lk : Int) lb lg lp' la (.slice q3 n3 c3) (.slice q4 n4 c4)) 76 ∧ U.cell? ⟨wb, 12, none⟩ = some (.slice (some ⟨gl, 0, none⟩) S'.lt.length cl) := fun U hb => ⟨hL5.keep hb, e12 U hb⟩
                go_upto_region 12 with fail
                clear y0 e12 hbv
                refine region_L 7 (S := fun w' => Below V5.heap.size V5 w') (by kernel_rfl) ((Below.refl _ _).drew) (fun hHeld => ?_)
                have hdr : Below V5.heap.size V5 V5.drew := hHeld
                generalize V5.drew = V0 at *
                refine takeP (i := 0) (some 70) (by rfl) rfl rfl (by kernel_rfl) (by kernel_rfl) (by kernel_rfl) (fun _ _ _ h => h) (by rfl) (fun w => by go_simp; try rfl) hHeld ?_
                go_frame
                refine takeP (i := 1) (some 71) (by rfl) rfl rfl (by kernel_rfl) (by kernel_rfl) (by kernel_rfl) (fun _ _ _ h => h) (by rfl) (fun w => by go_simp; try rfl) hHeld ?_
                go_frame
                refine takeP (i := 2) (some 72) (by rfl) rfl rfl (by kernel_rfl) (by kernel_rfl) (by kernel_rfl) (fun _ _ _ h => h) (by rfl) (fun w => by go_simp; try rfl) hHeld ?_
                go_frame
                refine takeP (i := 3) (some 73) (by rfl) rfl rfl (by kernel_rfl) (by kernel_rfl) (by kernel_rfl) (fun _ _ _ h => h) (by rfl) (fun w => by go_simp; try rfl) hHeld ?_
                go_frame
                refine takeL (i := 4) [7] (some 74) (by rfl) rfl rfl (by kernel_rfl) (by kernel_rfl) (by kernel_rfl) (by kernel_rfl) (fun _ _ _ h => h) (by rfl) (fun w hSw => by (try dsimp only at hSw); (have hcc := (D _ hSw).2; go_simp; try rfl)) hHeld ?_
                go_frame
                refine takeL (i := 5) [6, 7] (some 75) (by rfl) rfl rfl (by kernel_rfl) (by kernel_rfl) (by kernel_rfl) (by kernel_rfl) (fun _ _ _ h => h) (by rfl) (fun w hSw => by (try dsimp only at hSw); (have hh := (D _ hSw).1; have t0 := hh.at (i := 0) rfl; have t1 := hh.at (i := 1) rfl; have t2 := hh.at (i := 2) rfl; have t3 := hh.at (i := 3) rfl; have t4 := hh.at (i := 4) rfl; have t5 := hh.at (i := 5) rfl; have t6 := hh.at (i := 6) rfl; have t7 := hh.at (i := 7) rfl; have t8 := hh.at (i := 8) rfl; have t9 := hh.at (i := 9) rfl; have t10 := hh.at (i := 10) rfl; have t11 := hh.at (i := 11) rfl; have t12 := hh.at (i := 12) rfl; have t13 := hh.at (i := 13) rfl; have t14 := hh.at (i := 14) rfl; have t15 := hh.at (i := 15) rfl; have t16 := hh.at (i := 16) rfl; go_simp; try rfl)) hHeld ?_
                go_frame
                refine anyL_ready (rs := [6]) (by kernel_rfl) (by simp) (AllL.cons rfl (fun K hK => ?_) AllL.nil)
                rw [if_pos (by rfl)]
                refine bsLtW (some 76) rfl rfl (lkd : Int) (lr : Int) (lk : Int) lb lg lp' la q3 q4 n3 n4 c3 c4 (by simp only [List.map_toArray, List.map_cons, List.map_nil]; rfl) ?_
                intro W6 hB6 b6
                have hb6 := ab_trans hdr b6
                refine hK.out _ _ hb6 (fun hHeld => ?_)
                clear hK K
                try go_frame
                have hN6 := hN5.keep hb6
                have hown6 := hN6.lts
                rw [el] at hown6
                have hm6 : Im W0 W6 W0.heap.size (.slice q3 n3 c3) ll ∧ Im W0 W6 W0.heap.size (.slice q4 n4 c4) lm := ⟨hm5.1.frm (X := fun _ => False) (frm_below hb6) (noI_false _), hm5.2.frm (X := fun _ => False) (frm_below hb6) (noI_false _)⟩
                refine anyL_ready (rs := [7]) (by kernel_rfl) (by simp) (AllL.last rfl (by kernel_rfl) (fun K hK => ?_))
                rw [if_pos (by rfl)]
                refine appLt1 (some 77) rfl rfl ⟨lkd, lr, lk, lb, lg, lp', la, .slice q3 n3 c3, ll, .slice q4 n4 c4, lm⟩ (v := .slice (some ⟨gl, 0, none⟩) S'.lt.length cl) rfl hown6 rfl hB6 ⟨_, _, _, rfl⟩ ⟨_, _, _, rfl⟩ (by omega) hN6.lB ?_
                intro v7 W7 own7 gr7 at7
                rw [← el] at gr7
                have hm7 := hN6.more (v := v7) (l := ⟨lkd, lr, lk, lb, lg, lp', la, .slice q3 n3 c3, ll, .slice q4 n4 c4, lm⟩) gr7 own7 hm6
                obtain ⟨hN7, F7⟩ := hm7
                have hc7 : ∃ q c, v7 = .slice q (S'.lt.length + 1) c := by
                  rcases own7.2 with ⟨h1, h2⟩ | ⟨g, cap, cur, h1, _⟩
                  · omega
                  · exact ⟨_, _, h1⟩
                obtain ⟨q7, c7, e7⟩ := hc7
                subst e7
                have hBk7 : W7.cell? ⟨wb, 12, none⟩ = some (.slice (some ⟨gl, 0, none⟩) S'.lt.length cl) ∧ W7.frozen? ⟨wb, 12, none⟩ = false := by
                  obtain ⟨x, y, z, e, hBw⟩ := hN6.blk
                  have hF : Frm (fun k => P'.lv.ownBlock = some k) W6 W7 := ⟨gr7.os, gr7.tape, gr7.output, gr7.size, fun i hi hx => gr7.block i hi (fun e => hx e.symm)⟩
                  have h9 := hBw.frm hF (fun e => by have := (hN6.kinds.2.2.2.2 _ e).uniq hBw.kindR; cases this)
                  refine ⟨?_, h9.frozen 12⟩
                  rw [← el]
                  exact h9.at (i := 12) rfl
                obtain ⟨hB7w, hfz7⟩ := hBk7
                refine hK.out _ _ ?_
                clear hK K
                try go_frame
                refine anyL_ready (rs := [8]) (by kernel_rfl) (by simp) (AllL.free rfl (by kernel_rfl) (fun K hK => ?_))
                go_simp
                refine hK.out _ _ ?_
                clear hK K
                try go_frame
                refine anyL_ready (rs := [9]) (by kernel_rfl) (by simp) (AllL.free rfl (by kernel_rfl) (fun K hK => ?_))
                go_simp
                refine hK.out _ _ ?_
                clear hK K
                try go_frame
                refine anyL_ready (rs := [10]) (by kernel_rfl) (by simp) (AllL.free rfl (by kernel_rfl) (fun K hK => ?_))
                go_simp
                refine hK.out _ _ ?_
                clear hK K
                refine anyL_done (by kernel_rfl) ?_
                go_wp2_with fail
                have hb7 : Below W0.heap.size w (W7.setCell ⟨wb, 12, none⟩ (.slice q7 (S'.lt.length + 1) c7)) := (hbr5.trans (hb6.mono hN5.lB)).trans (F7.below hN6.lB (fun k hk => by rcases hk with e | e; exact (hN6.lts.lt k e).1; subst e; exact hN6.gew))
                refine ⟨⟨j + 1, by omega, rfl, _, _, acc', hN7, inv_sub hI (fun l hl => ?_), eN, e30, ?_, HPc.out, hb7⟩, by simp only [intOf]; omega⟩
                · rcases List.mem_append.1 hl with e | e
                  · exact e
                  · rw [List.mem_singleton.1 e]; exact hlin
                · show (S'.lt ++ [_]).length ≤ _
                  rw [List.length_append]
                  show S'.lt.length + 1 ≤ _
                  omega
              · have l3i : ¬ (S'.lt.length : Int) < 300 := by omega
                go_wp2_with fail
                exact ⟨⟨j + 1, by omega, rfl, P', S', acc', hN5, hI, eN, e30, by omega, HPc.out, hbr5⟩, by simp only [intOf]; omega⟩
          · have z2 : (kd == 2) = false := by simp [kk2]
            have hone : ∀ l ∈ P'.lds, (∃ q n c, l.rv = .slice q n c) ∧ ∃ q n c, l.vv = .slice q n c := fun l hl => by
              obtain ⟨a1, a2⟩ := hN5.lti l hl
              obtain ⟨u1, u2, u3⟩ := a1.form
              obtain ⟨u4, u5, u6⟩ := a2.form
              exact ⟨⟨_, _, _, u3⟩, _, _, _, u6⟩
            have hpl : P'.lds.length = S'.lt.length := hN5.size.2.2
            have hbB := hN5.lB
            have hml : (P'.lds.take i).length = i := by rw [List.length_take]; omega
            have hmd : (P'.lds.drop (i + 1)).length = S'.lt.length - (i + 1) := by rw [List.length_drop, hpl]
            have HL5 : Hid (Blk V5 V4.heap.size (lV (lkd : Int) (lr : Int) (lk : Int) lb lg lp' la (.slice q3 n3 c3) (.slice q4 n4 c4)) 76) := hL5
            have HO5 : Hid (Blk V5 wr.heap.size (acC kd wh nm k (.slice q1 n1 c1) (.slice q2 n2 c2)) 52) := hO5
            have HN5 : Hid (Nw W0 V5 W0.heap.size wb P' S') := hN5
            have HM5 : Hid (Im W0 V5 W0.heap.size (.slice q3 n3 c3) ll ∧ Im W0 V5 W0.heap.size (.slice q4 n4 c4) lm) := hm5
            have HW : Hid (wb < V4.heap.size ∧ wb < wr.heap.size) := ⟨hN4.cells.2.2.2.2.2, hN.cells.2.2.2.2.2⟩
            have HBr : Hid (Below W0.heap.size w V5) := hbr5
            have HI : Hid (Inv acc' S') := hI
            have HE : Hid (∀ V, Below V5.heap.size V5 V → V.cell? ⟨wb, 12, none⟩ = some (.slice (some ⟨gl, 0, none⟩) S'.lt.length cl)) := e12
            have HLin := hlin
            have HLin : Hid (ltOf ⟨lkd, lr, lk, lb, lg, lp', la, .slice q3 n3 c3, ll, .slice q4 n4 c4, lm⟩ ∈ S'.lt) := HLin
            clear hL5 hO5 hlm hN4 hO4 hNV hN hO hgl hN5 hm5 hbr5 hbr4 hbrV hbr hI hlin b5 b4 hbV hfz hfz5 hwl hwl5 HS HX HG hfit hmx hg Z
            as_aux_lemma =>
              go_upto_region 14 with (first
                | (refine bs_lt0 W0 rfl rfl (by simp) hbB ?_; intro X1 hX1 bX1; go_frame)
                | (refine app_lts rfl rfl (P'.lds.take i) (lds := []) (v := .slice (some ⟨V5.heap.size, 0, none⟩) 0 0) rfl hX1 rfl (fun j u hu => by rw [add_plain _ rfl]; have := HS5.out _ bX1 j u (src_take hu); simpa using this) (fun l hl => hone l (List.mem_of_mem_take hl)) hml (by omega) (Nat.le_trans hbB bX1.size) ?_; intro v9 X2 own9 g9 at9; go_frame))
              have b9 : Below V5.heap.size V5 X2 := bX1.trans ⟨g9.os, g9.tape, g9.output, g9.size, fun i hi => g9.block i (Nat.lt_of_lt_of_le hi bX1.size) (fun e => by have e : V5.heap.size = i := Option.some.inj e.symm; omega)⟩
              have o9 : ∀ k, v9.ownBlock = some k → V5.heap.size ≤ k := fun k hk => by
                rcases at9 with e | e
                · rw [e] at hk; have hk : V5.heap.size = k := Option.some.inj hk; omega
                · rw [e] at hk; have hk : X1.heap.size = k := Option.some.inj hk; have := bX1.size; omega
              have f9 : ∃ q c, v9 = .slice q i c := by
                rcases own9.2 with ⟨h1, h2⟩ | ⟨g, cap, cur, h1, _⟩
                · exact ⟨none, 0, by rw [h1, show i = 0 by omega]⟩
                · exact ⟨_, _, by rw [h1, Nat.zero_add]⟩
              obtain ⟨q9, c9, e9⟩ := f9
              subst e9
              have m12 := HE.out X2 b9
              have o9' : Hid (∀ k, (Value.slice q9 i c9).ownBlock = some k → V5.heap.size ≤ k) := o9
              have HB9 : Hid (Below V5.heap.size V5 X2) := b9
              have own9' : X2.ownsRow W0.heap.size 76 17 (.slice q9 i c9) i ((P'.lds.take i).flatMap encL) := by
                have := own9
                rw [Nat.zero_add, List.nil_append] at this
                exact this
              clear e12 hX1 bX1 g9 at9 hbv y0 o9 b9 own9
              go_upto_region 15 with (first
                | (refine sli_lt rfl rfl (i + 1) X2 P'.lds rfl rfl (by first | rfl | (unfold wrap64; omega)) (by omega) hcl1 hpl (HS5.out _ HB9.out) ?_; intro ad had; go_frame)
                | (refine app_lts rfl rfl (P'.lds.drop (i + 1)) (lds := P'.lds.take i) (v := .slice q9 i c9) rfl own9' rfl had (fun l hl => hone l (List.mem_of_mem_drop hl)) hmd (by omega) (Nat.le_trans hbB HB9.out.size) ?_
                   intro v10 X3 own10 g10 at10
                   have b10 : Below V5.heap.size V5 X3 := HB9.out.trans ⟨g10.os, g10.tape, g10.output, g10.size, fun i hi => g10.block i (Nat.lt_of_lt_of_le hi HB9.out.size) (fun e => by have := o9'.out _ e.symm; omega)⟩
                   have m12' := HE.out X3 b10
                   have hN10 := HN5.out.keep b10
                   have hz10 := hN10.cells.2.2.2.2.1 12
                   have HB10 : Hid (Below V5.heap.size V5 X3) := b10
                   have HN10 : Hid (Nw W0 X3 W0.heap.size wb P' S') := hN10
                   have Hown : Hid (X3.ownsRow W0.heap.size 76 17 v10 (i + (S'.lt.length - (i + 1))) ((P'.lds.take i ++ P'.lds.drop (i + 1)).flatMap encL)) := own10
                   have f10 : ∃ q c, v10 = .slice q (i + (S'.lt.length - (i + 1))) c := by
                     rcases own10.2 with ⟨h1, h2⟩ | ⟨g, cap, cur, h1, _⟩
                     · exact ⟨none, 0, by rw [h1, ← h2]⟩
                     · exact ⟨_, _, h1⟩
                   clear b10 hN10 g10 at10 own10
                   obtain ⟨q10, c10, e10⟩ := f10
                   subst e10
                   go_frame))
              have HN10' := HN10.out
              have hmk : ((P'.lds.take i ++ P'.lds.drop (i + 1))).length = i + (S'.lt.length - (i + 1)) := by rw [List.length_append, hml, hmd]
              have hin10 : ∀ l ∈ P'.lds.take i ++ P'.lds.drop (i + 1), l ∈ P'.lds := fun l hl => by
                rcases List.mem_append.1 hl with e | e
                · exact List.mem_of_mem_take e
                · exact List.mem_of_mem_drop e
              obtain ⟨hN11, F11⟩ := HN10'.turnL (v := (.slice q10 (i + (S'.lt.length - (i + 1))) c10)) (lds := P'.lds.take i ++ P'.lds.drop (i + 1)) (Frm.refl _ _) (by rw [hmk]; exact Hown.out) (fun l hl => HN10'.lti l (hin10 l hl))
              have hI11 : Inv acc' { S' with lt := (P'.lds.take i ++ P'.lds.drop (i + 1)).map ltOf } := inv_sub HI.out (fun l hl => by
                obtain ⟨x, hx, e⟩ := List.mem_map.1 hl
                rw [← e, ← HN10'.ltm]
                exact List.mem_map_of_mem (hin10 x hx))
              have hl11 : ((P'.lds.take i ++ P'.lds.drop (i + 1)).map ltOf).length + 1 ≤ 5 * j := by rw [List.length_map, hmk]; omega
              have hfs : Frm (fun k => k = wb) X3 (X3.setCell ⟨wb, 12, none⟩ (.slice q10 (i + (S'.lt.length - (i + 1))) c10)) := frm_chg (chg_set X3 wb 12 (.slice q10 (i + (S'.lt.length - (i + 1))) c10)) rfl
              have hbr11 : Below W0.heap.size w (X3.setCell ⟨wb, 12, none⟩ (.slice q10 (i + (S'.lt.length - (i + 1))) c10)) := (HBr.out.trans (HB10.out.mono hbB)).trans (hfs.below (Nat.le_trans hbB HB10.out.size) (fun k hk => by subst hk; exact HN10'.gew))
              have hO11 := (HO5.out.keep HB10.out).frm hfs (fun e => by have := HW.out.2; omega)
              have hL11 := (HL5.out.keep HB10.out).frm hfs (fun e => by have := HW.out.1; omega)
              have hM11 : Im W0 (X3.setCell ⟨wb, 12, none⟩ (.slice q10 (i + (S'.lt.length - (i + 1))) c10)) W0.heap.size (.slice q3 n3 c3) ll ∧ Im W0 (X3.setCell ⟨wb, 12, none⟩ (.slice q10 (i + (S'.lt.length - (i + 1))) c10)) W0.heap.size (.slice q4 n4 c4) lm := by
                have hq : NoI (fun k => k = wb) X3 := fun k hk hi => by subst hk; have := hi.uniq HN10'.kinds.1; cases this
                have hz := HM5.out
                exact ⟨(hz.1.frm (X := fun _ => False) (frm_below HB10.out) (noI_false _)).frm hfs hq, (hz.2.frm (X := fun _ => False) (frm_below HB10.out) (noI_false _)).frm hfs hq⟩
              generalize X3.setCell ⟨wb, 12, none⟩ (.slice q10 (i + (S'.lt.length - (i + 1))) c10) = X4 at *
              generalize hS4 : ({ S' with lt := (P'.lds.take i ++ P'.lds.drop (i + 1)).map ltOf } : Net) = S4 at *
              have HS4 : Hid (S4.n = S'.n ∧ S4.rd = S'.rd ∧ S4.lt.length + 1 ≤ 5 * j) := by subst hS4; exact ⟨rfl, rfl, hl11⟩
              have HL4 : Hid (∃ R, S4.rd[lr]? = some R ∧ LtOK acc' S4 (ltOf ⟨lkd, lr, lk, lb, lg, lp', la, .slice q3 n3 c3, ll, .slice q4 n4 c4, lm⟩) R) := by
                subst hS4
                exact lt_sub HI.out HLin.out
              have y0 := hO11.at (i := 0) rfl
              clear hS4 hl11 hfs hmk hin10 HN10' m12'
              as_aux_lemma =>
                by_cases kk1 : kd = 1
                · have z1 : (kd == 1) = true := by rw [kk1]; rfl
                  clear kk1
                  have t0 := hL11.at (i := 0) rfl
                  have t1 := hL11.at (i := 1) rfl
                  have t2 := hL11.at (i := 2) rfl
                  have t3 := hL11.at (i := 3) rfl
                  have t4 := hL11.at (i := 4) rfl
                  have t5 := hL11.at (i := 5) rfl
                  have t6 := hL11.at (i := 6) rfl
                  have t7 := hL11.at (i := 7) rfl
                  have t8 := hL11.at (i := 8) rfl
                  have t9 := hL11.at (i := 9) rfl
                  have t10 := hL11.at (i := 10) rfl
                  have t11 := hL11.at (i := 11) rfl
                  have t12 := hL11.at (i := 12) rfl
                  have t13 := hL11.at (i := 13) rfl
                  have t14 := hL11.at (i := 14) rfl
                  have t15 := hL11.at (i := 15) rfl
                  have t16 := hL11.at (i := 16) rfl
                  go_wp2_with fail
                  obtain ⟨R, hR, ho⟩ := HL4.out
                  refine (deliver_any W0 wb _ S4 acc' ⟨lkd, lr, lk, lb, lg, lp', la, .slice q3 n3 c3, ll, .slice q4 n4 c4, lm⟩ X4 hN11 hI11 R hR ho hM11 (by have := HS4.out.2.2; omega)).mono ?_
                  rintro e W2 ⟨rfl, P2, S2, acc2, hN2, hI2, en2, rc2, l2, b2⟩
                  clear t0 t1 t2 t3 t4 t5 t6 t7 t8 t9 t10 t11 t12 t13 t14 t15 t16 y0
                  go_wp2_with fail
                  have hs4 := HS4.out
                  refine ⟨⟨j + 1, by omega, rfl, P2, S2, acc2, hN2, hI2, by rw [en2, hs4.1, eN], ?_, by omega, fun R hR => ?_, hbr11.trans b2⟩, by simp only [intOf]; omega⟩
                  · have := congrArg List.length rc2
                    rw [List.length_map, List.length_map, hs4.2.1] at this
                    omega
                  · have h9 : R.c ∈ S2.rd.map (fun R => R.c) := List.mem_map_of_mem hR
                    rw [rc2, hs4.2.1] at h9
                    obtain ⟨x, hx, e⟩ := List.mem_map.1 h9
                    rw [← e]
                    exact HPc.out x hx
                · have z1 : (kd == 1) = false := by simp [kk1]
                  go_wp2_with fail
                  have hs4 := HS4.out
                  exact ⟨⟨j + 1, by omega, rfl, _, S4, acc', hN11, hI11, hs4.1.trans eN, by rw [hs4.2.1]; exact e30, by omega, by rw [hs4.2.1]; exact HPc.out, hbr11⟩, by simp only [intOf]; omega⟩
end Go.Proofs.Ytodmhohccclhmaa
