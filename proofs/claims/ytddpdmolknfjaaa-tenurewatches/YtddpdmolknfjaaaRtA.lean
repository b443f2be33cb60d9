/-
  The document's watch in memory; its New, Tick, last, Lease, Leads, Saw.
-/
import Derived.Test.YtddpdmolknfjaaaTnE
namespace Go.Proofs.Ytddpdmolknfjaaa
open Go.RowKit
set_option linter.unusedVariables false
set_option maxRecDepth 100000

theorem infoNs : (Try.prog.info? 27).map (fun i => (i.zero, i.size, i.bytes)) = some (some (.slice none 0 0), 1, 24) := by kernel_rfl
theorem bsns1 (q : Option Addr) (n c : Nat) (w : World) : (Instr.buildSlice 62 1 #[(0, .slice q n c)]).run Try.prog w = .ok (.slice (some ⟨w.heap.size, 0, none⟩) 1 1) (w.alloc (.cells #[.slice q n c] 27)) := by kernel_rfl
section
variable {o : Oper} {a : Act} {w : World} {K : Act → World → Prop} {Q : Exit → Act → World → Prop}
theorem ns1W (d : Option Tmp) (hd : o.dst = d) {parts : Array (Nat × Operand)} (ho : o.op = .buildSlice 62 1 parts) (q : Option Addr) (n c : Nat) (hl : parts.map (fun (i, x) => (i, a.eval x)) = #[(0, .slice q n c)])
    (h : ∀ W', Blk W' w.heap.size #[.slice q n c] 27 → Below w.heap.size w W' → K (a.put d (.slice (some ⟨w.heap.size, 0, none⟩) 1 1)) W') : o.wp Try.prog a w K Q := by
  subst hd
  unfold Oper.wp execOp
  simp only [ho, Sem.run_bind, hl, bsns1, Result.andThen_ok]
  exact h _ (Blk.new _ _ _) ((Below.refl _ _).alloc (Nat.le_refl _) _)
theorem appnsW (d : Option Tmp) (hd : o.dst = d) {s x : Operand} (ho : o.op = .call { callee := .builtin .append, args := #[s, x], argTypes := #[62, 62] })
    {v : Value} {N B g : Nat} {vs : List Value} (q : Option Addr) (n c : Nat) (hs : a.eval s = v) (hown : w.ownsRow B 27 1 v N vs) (hx : a.eval x = .slice (some ⟨g, 0, none⟩) 1 1) (hBl : Blk w g #[.slice q n c] 27) (hk : N ≤ 4000) (hB : B ≤ w.heap.size)
    (h : ∀ v' w', w'.ownsRow B 27 1 v' (N + 1) (vs ++ [.slice q n c]) → w.grownBy w' v.ownBlock → (v'.ownBlock = v.ownBlock ∨ v'.ownBlock = some w.heap.size) → K (a.put d v') w') : o.wp Try.prog a w K Q := by
  subst hd
  obtain ⟨i, hi, hz0, hz1, hz2⟩ := info_parts infoNs
  obtain ⟨v', w', hr, g2, g3, g4, g5⟩ := run_append_own_at (P := Try.prog) w B 62 o.type 27 i _ 1 24 Try.underlying62 hi hz0 hz1 hz2 rfl (by omega) v N vs hown ⟨g, 0, none⟩ 1 1 [.slice q n c] rfl (fun j u hu => by
    rw [add_plain _ rfl]
    have := hBl.at (i := j) (v := u) (by simpa using hu)
    simpa using this) (fun u hu => by rw [List.mem_singleton.1 hu]; rfl) (by unfold maxLen; omega) (by omega) hB
  unfold Oper.wp execOp
  simp only [ho, resolve, invoke, builtin, Sem.run_bind, Sem.run_pure, Result.andThen_ok, List.map_toArray, List.map_cons, List.map_nil, hs, hx, hr]
  exact h v' w' g2 g3 g5
end
/-- Numbers of the call's own that lie in no block of G. -/
def Ih (G : Nat → Prop) (W : World) (B : Nat) (v : Value) (l : List Int) : Prop := Io W B v l ∧ ∀ k, v.ownBlock = some k → ¬ G k
theorem Ih.keep {G : Nat → Prop} {W W' : World} {B : Nat} {v : Value} {l : List Int} (h : Ih G W B v l) (hb : Below W.heap.size W W') : Ih G W' B v l := ⟨h.1.keep hb, h.2⟩
theorem Ih.frm {G X : Nat → Prop} {W W' : World} {B : Nat} {v : Value} {l : List Int} (h : Ih G W B v l) (hf : Frm X W W') (hx : ∀ k, X k → kindR W k 3 → G k) : Ih G W' B v l :=
  ⟨own_at h.1 fun g hg => hf.other g (h.1.lt g hg).2 (fun e => h.2 g hg (hx g e (own_kindR h.1 hg))), h.2⟩
theorem ih_new {G : Nat → Prop} {W : World} {B n : Nat} {v : Value} {l : List Int} (h : Io W n v l) (hG : ∀ k, G k → k < n) (hB : B ≤ n) : Ih G W B v l := ⟨h.less hB, fun k hk hg => by have := (h.lt k hk).1; have := hG k hg; omega⟩
theorem Ih.bar {G G' : Nat → Prop} {W : World} {B : Nat} {v : Value} {l : List Int} (h : Ih G W B v l) (hG : ∀ k, G' k → W.heap.size ≤ k) : Ih G' W B v l := ⟨h.1, fun k hk hg => by have := (h.1.lt k hk).2; have := hG k hg; omega⟩
theorem own_form {W : World} {base e s n : Nat} {v : Value} {xs : List Value} (h : W.ownsRow base e s v n xs) : ∃ q c, v = .slice q n c ∧ (0 < n → ∃ g, q = some ⟨g, 0, none⟩ ∧ g < W.heap.size) := by
  rcases h.2 with ⟨h2, h3⟩ | ⟨g, cap, cur, h2, hb, hg, _⟩
  · exact ⟨none, 0, by rw [h2, h3], fun h => by omega⟩
  · exact ⟨_, cap, h2, fun _ => ⟨g, rfl, (Array.getElem?_eq_some_iff.1 hg).1⟩⟩
abbrev rtC (S : Wt) (v : Value) : Array Value := #[.int .i64 S.nd, .int .i64 S.lf, .int .i64 S.tk, v, .int .i64 S.ag]
/-- The document's watch at block d, with at most N values that it saw. -/
structure Rh (G : Nat → Prop) (W : World) (base d N : Nat) (S : Wt) : Prop where
  mem : ∃ (v : Value) (vs : List Value), Blk W d (rtC S v) 71 ∧ W.ownsRow base 27 1 v vs.length vs ∧ (S.sn = false → vs = [] ∧ S.vl = []) ∧ (S.sn = true → ∃ us q c, vs = us ++ [.slice q S.vl.length c] ∧ Ih G W base (.slice q S.vl.length c) S.vl) ∧ vs.length ≤ N
  len : S.vl.length ≤ 100000
  ge : base ≤ d
  age : 0 ≤ S.ag ∧ S.ag ≤ 1000
section
variable {G : Nat → Prop} {W W' : World} {base d N : Nat} {S : Wt}
theorem Rh.lt (h : Rh G W base d N S) : d < W.heap.size := by
  obtain ⟨v, vs, hB, -⟩ := h.mem
  exact hB.lt
theorem Rh.kind (h : Rh G W base d N S) : kindR W d 71 := by
  obtain ⟨v, vs, hB, -⟩ := h.mem
  exact hB.kindR
theorem Rh.keep (h : Rh G W base d N S) (hb : Below W.heap.size W W') : Rh G W' base d N S := by
  obtain ⟨v, vs, hB, hO, h1, h2, h3⟩ := h.mem
  exact ⟨⟨v, vs, hB.keep hb, own_keep hO hb, h1, fun hs => by obtain ⟨us, q, c, e, i⟩ := h2 hs; exact ⟨us, q, c, e, i.keep hb⟩, h3⟩, h.len, h.ge, h.age⟩
/-- Blocks of other kinds, or numbers that are barred, may turn. -/
theorem Rh.frm {X : Nat → Prop} (h : Rh G W base d N S) (hf : Frm X W W') (h1 : ∀ k, X k → ¬ kindR W k 71) (h2 : ∀ k, X k → ¬ kindR W k 27) (h3 : ∀ k, X k → kindR W k 3 → G k) : Rh G W' base d N S := by
  obtain ⟨v, vs, hB, hO, k1, k2, k3⟩ := h.mem
  exact ⟨⟨v, vs, hB.frm hf (fun e => h1 d e hB.kindR), own_at hO fun g hg => hf.other g (World.ownsRow.lt hO g hg).2 (fun e => h2 g e (own_kindR hO hg)), k1, fun hs => by obtain ⟨us, q, c, e, i⟩ := k2 hs; exact ⟨us, q, c, e, i.frm hf h3⟩, k3⟩, h.len, h.ge, h.age⟩
theorem Rh.bar {G' : Nat → Prop} (h : Rh G W base d N S) (hG : ∀ k, G' k → W.heap.size ≤ k) : Rh G' W base d N S := by
  obtain ⟨v, vs, hB, hO, k1, k2, k3⟩ := h.mem
  exact ⟨⟨v, vs, hB, hO, k1, fun hs => by obtain ⟨us, q, c, e, i⟩ := k2 hs; exact ⟨us, q, c, e, i.bar hG⟩, k3⟩, h.len, h.ge, h.age⟩
end
set_option maxHeartbeats 1000000 in
theorem rtnew_ok (nd lf tk : Int) (w : World) (h : 0 ≤ nd ∧ 0 ≤ lf ∧ 1 ≤ tk ∧ tk ≤ 20) : Calls Try.prog 24 #[.int .i64 nd, .int .i64 lf, .int .i64 tk] w fun e w' => ∃ d, e = .returned (.tuple #[wptr d, .int .i64 0]) ∧ Rh (fun _ => False) w' w.heap.size d 0 (newW nd lf tk) ∧ Below w.heap.size w w' := by
  have i1 : ¬ nd < 0 := by omega
  have i2 : ¬ lf < 0 := by omega
  have i3 : ¬ tk < 1 := by omega
  have i4 : ¬ 20 < tk := by omega
  clear h
  go_enter Try.func24, Try.ntmps24
  go_wp2_with fail
  go_ret2
  refine ⟨_, rfl, ⟨⟨.slice none 0 0, [], Blk.new _ _ _, ⟨rfl, .inl ⟨rfl, rfl⟩⟩, fun _ => ⟨rfl, rfl⟩, fun h => Bool.noConfusion (show false = true from h), Nat.le_refl _⟩, Nat.zero_le _, Nat.le_refl _, ⟨Int.le_refl _, by show (0 : Int) ≤ 1000; omega⟩⟩, ?_⟩
  repeat (first | exact Below.refl _ _ | refine ab_alloc ?_ _)
set_option maxHeartbeats 1000000 in
theorem rtnew_no (nd lf tk : Int) (w : World) (h : ¬ (0 ≤ nd ∧ 0 ≤ lf ∧ 1 ≤ tk ∧ tk ≤ 20)) : Calls Try.prog 24 #[.int .i64 nd, .int .i64 lf, .int .i64 tk] w fun e w' => e = .returned (.tuple #[.pointer none, .int .i64 2]) ∧ w' = w := by
  by_cases i1 : nd < 0
  · clear h
    go_enter Try.func24, Try.ntmps24
    go_wp2_with fail
    go_ret2
    exact ⟨rfl, rfl⟩
  by_cases i2 : lf < 0
  · clear h
    go_enter Try.func24, Try.ntmps24
    go_wp2_with fail
    go_ret2
    exact ⟨rfl, rfl⟩
  by_cases i3 : tk < 1
  · clear h
    go_enter Try.func24, Try.ntmps24
    go_wp2_with fail
    go_ret2
    exact ⟨rfl, rfl⟩
  have i4 : 20 < tk := by omega
  clear h
  go_enter Try.func24, Try.ntmps24
  go_wp2_with fail
  go_ret2
  exact ⟨rfl, rfl⟩
set_option maxHeartbeats 1000000 in
theorem rttick_any {G : Nat → Prop} (base d N : Nat) (S : Wt) (w : World) (hW : Rh G w base d N S) : Calls Try.prog 27 #[wptr d] w fun e w' => e = .returned (.tuple #[]) ∧ Rh G w' base d N (tickW S) ∧ Chg d w w' := by
  obtain ⟨v, vs, hB, hO, k1, k2, k3⟩ := hW.mem
  obtain ⟨a0, a1⟩ := hW.age
  have y5 : w.cell? ⟨d, 4, none⟩ = some (.int .i64 S.ag) := hB.at rfl
  by_cases h : S.ag < 1000
  · have HT : Hid (tickW S = { S with ag := S.ag + 1 }) := if_pos h
    have f5 := hB.frozen 4
    have hlt := hB.lt
    have HO : Hid (w.ownsRow base 27 1 v vs.length vs) := hO
    have HK : Hid ((S.sn = false → vs = [] ∧ S.vl = []) ∧ (S.sn = true → ∃ us q c, vs = us ++ [.slice q S.vl.length c] ∧ Ih G w base (.slice q S.vl.length c) S.vl)) := ⟨k1, k2⟩
    clear hO k1 k2
    go_enter Try.func27, Try.ntmps27
    go_wp2_with fail
    go_end0
    have C5 := chg_set w d 4 (.int .i64 (S.ag + 1))
    have F5 : Frm (fun x => x = d) w (w.setCell ⟨d, 4, none⟩ (.int .i64 (S.ag + 1))) := frm_chg C5 rfl
    rw [HT.out]
    refine ⟨rfl, ⟨⟨v, vs, hB.set 4 _, own_chgT HO.out C5 (fun e => absurd (hB.kindR.uniq (own_kindR HO.out e)) (by decide)), HK.out.1, fun hs => ?_, k3⟩, hW.len, hW.ge, by dsimp only; omega⟩, C5⟩
    obtain ⟨us, q, c, e, i⟩ := HK.out.2 hs
    exact ⟨us, q, c, e, i.frm F5 (fun k hk hi => by subst hk; exact absurd (hB.kindR.uniq hi) (by decide))⟩
  · have HT : Hid (tickW S = S) := if_neg h
    clear k1 k2 hO
    go_enter Try.func27, Try.ntmps27
    go_wp2_with fail
    go_end0
    rw [HT.out]
    exact ⟨rfl, hW, Chg.refl _ _⟩
/-- The row's last cell. -/
theorem Rh.seen {G : Nat → Prop} {W : World} {base d N : Nat} {S : Wt} (h : Rh G W base d N S) (hs : S.sn = true) : ∃ (g n cap : Nat) (q : Option Addr) (c : Nat), n + 1 ≤ N ∧ n + 1 ≤ cap ∧ cap ≤ maxLen ∧ g < W.heap.size ∧ Ih G W base (.slice q S.vl.length c) S.vl ∧ (∀ V, Below W.heap.size W V → V.cell? ⟨d, 3, none⟩ = some (.slice (some ⟨g, 0, none⟩) (n + 1) cap) ∧ V.cell? ⟨g, n, none⟩ = some (.slice q S.vl.length c)) := by
  obtain ⟨v, vs, hB, hO, k1, k2, k3⟩ := h.mem
  obtain ⟨us, q, c, e, i⟩ := k2 hs
  have hl : vs.length = us.length + 1 := by rw [e]; simp
  rw [hl] at hO
  obtain ⟨g, cap, rfl, hb, hg, hnc, hcm, hcc⟩ := own_cells hO (fun e => by rcases hO.2 with ⟨_, h3⟩ | ⟨g, cap, cur, h2, _⟩; omega; rw [e] at h2; cases h2)
  have hv : vs[us.length]? = some (.slice q S.vl.length c) := by rw [e]; simp
  refine ⟨g, us.length, cap, q, c, by omega, hnc, hcm, hg, i, fun V hV => ⟨(hB.keep hV).at rfl, ?_⟩⟩
  have := hcc us.length _ hv
  exact keep_cell hV this hg
theorem Rh.unseen {G : Nat → Prop} {W : World} {base d N : Nat} {S : Wt} (h : Rh G W base d N S) (hs : S.sn = false) : S.vl = [] ∧ ∃ (q : Option Addr) (c : Nat), (∀ V, Below W.heap.size W V → V.cell? ⟨d, 3, none⟩ = some (.slice q 0 c)) := by
  obtain ⟨v, vs, hB, hO, k1, k2, k3⟩ := h.mem
  obtain ⟨rfl, e⟩ := k1 hs
  obtain ⟨q, c, rfl, -⟩ := own_form hO
  exact ⟨e, q, c, fun V hV => (hB.keep hV).at rfl⟩
set_option maxHeartbeats 1000000 in
theorem rlast_any {G : Nat → Prop} (base d N : Nat) (S : Wt) (w : World) (hW : Rh G w base d N S) : Calls Try.prog 37 #[wptr d] w fun e w' => ∃ q c, e = .returned (.slice q S.vl.length c) ∧ Io w' base (.slice q S.vl.length c) S.vl ∧ Below w.heap.size w w' := by
  cases hs : S.sn
  · obtain ⟨e, q, c, hC⟩ := hW.unseen hs
    have y3 := hC w (Below.refl _ _)
    rw [e]
    clear hC
    go_enter Try.func37, Try.ntmps37
    go_wp2_with fail
    go_ret
    exact ⟨none, 0, rfl, gio_nil _ _, Below.refl _ _⟩
  · obtain ⟨g, n, cap, q, c, hn, hcap, hmax, hg, hi, hC⟩ := hW.seen hs
    unfold maxLen at hmax
    obtain ⟨y3, z⟩ := hC w (Below.refl _ _)
    obtain ⟨m, hm⟩ : ∃ m, n + 1 = m := ⟨_, rfl⟩
    rw [hm] at y3 hcap
    have n0 : ((m : Int) == 0) = false := by rw [beq_eq_false_iff_ne]; omega
    have e1 : (m : Int) - 1 = (n : Int) := by omega
    have hnm : (n : Int) < (m : Int) := by omega
    have hnm' : n < m := by omega
    have HI : Hid (Io w base (.slice q S.vl.length c) S.vl) := hi.1
    clear hC hi hm
    go_enter Try.func37, Try.ntmps37
    go_upto_region 3 with fail
    go_quiet (fail)
    go_wp2_with fail
    go_ret
    exact ⟨q, c, rfl, HI.out.keep (ab_drewN (Below.refl _ _) _), ab_drewN (Below.refl _ _) _⟩
set_option maxHeartbeats 1000000 in
theorem rtlease_any {G : Nat → Prop} (base d N : Nat) (S : Wt) (w : World) (hW : Rh G w base d N S) : Calls Try.prog 29 #[wptr d] w fun e w' => e = .returned (.tuple #[leV (tkL S.vl), .bool (isL S.vl)]) ∧ Below w.heap.size w w' := by
  obtain ⟨A, hAe, hB, hw⟩ := blk1 w (leC zL) 29
  go_enter Try.func29, Try.ntmps29
  go_upto_region 1 with fail
  clear hAe
  go_wp2_with fail
  refine (rlast_any base d N S _ (hW.keep hw)).mono ?_
  rintro e W0 ⟨q, c, rfl, hI, b0⟩
  go_wp2_with fail
  refine (rttake_any _ S.vl _ hI.is).mono ?_
  rintro e W1 ⟨rfl, b1⟩
  have hB1 := hB.keep (ab_trans b0 b1)
  obtain ⟨x, hx⟩ : ∃ x, tkL S.vl = x := ⟨_, rfl⟩
  rw [hx]
  go_wp2_with (refine st_le rfl rfl (k1 := x) hB1 rfl rfl ?_; intro W5 hB5 C5)
  exact bodyPost_ret (results_c2 rfl _ _ _ 29 _ (0, 0) _ (.bool (isL S.vl)) rfl rfl hB5 Try.underlying29 rfl (info_le x)) rfl ⟨ret_le ⟨rfl, hx⟩, ab_chg (ab_trans hw (ab_trans b0 b1)) C5 (Nat.le_refl _)⟩
theorem Rh.cells {G : Nat → Prop} {W : World} {base d N : Nat} {S : Wt} (h : Rh G W base d N S) : ∀ V, Below W.heap.size W V → V.cell? ⟨d, 0, none⟩ = some (.int .i64 S.nd) ∧ V.cell? ⟨d, 1, none⟩ = some (.int .i64 S.lf) ∧ V.cell? ⟨d, 2, none⟩ = some (.int .i64 S.tk) ∧ V.cell? ⟨d, 4, none⟩ = some (.int .i64 S.ag) := by
  obtain ⟨v, vs, hB, -⟩ := h.mem
  exact fun V hb => ⟨(hB.keep hb).at rfl, (hB.keep hb).at rfl, (hB.keep hb).at rfl, (hB.keep hb).at rfl⟩
set_option maxHeartbeats 4000000 in
theorem rtleads_any {G : Nat → Prop} (base d N : Nat) (S : Wt) (w : World) (hW : Rh G w base d N S) : Calls Try.prog 28 #[wptr d] w fun e w' => e = .returned (.tuple #[.int .i64 (ldN S), .bool (ldB S)]) ∧ Below w.heap.size w w' := by
  go_enter Try.func28, Try.ntmps28
  go_wp2_with fail
  refine (rtlease_any base d N S _ hW).mono ?_
  rintro e W1 ⟨rfl, b1⟩
  obtain ⟨A, hAe, hB, hw⟩ := blk1 W1 (leC zL) 29
  obtain ⟨x, hx⟩ : ∃ x, tkL S.vl = x := ⟨_, rfl⟩
  rw [hx]
  have hw1 := ab_trans b1 hw
  go_upto_region 2 with (refine st_le rfl rfl (k1 := x) hB rfl rfl ?_; intro W5 hB5 C5)
  have hw5 := ab_chg hw1 C5 b1.size
  obtain ⟨y0, y1, -, -⟩ := hW.cells W5 hw5
  clear hAe hB C5 hw hw1
  have z0 : W5.cell? ⟨W1.heap.size, 0, none⟩ = some (.int .i64 x.e) := hB5.at rfl
  have z1 : W5.cell? ⟨W1.heap.size, 1, none⟩ = some (.int .i64 x.h) := hB5.at rfl
  have z2 : W5.cell? ⟨W1.heap.size, 2, none⟩ = some (.int .i64 x.l) := hB5.at rfl
  cases hl : isL S.vl
  · have HN : Hid (ldB S = false ∧ ldN S = 0) := by
      have h1 : ldB S = false := by unfold ldB; rw [hl]; rfl
      exact ⟨h1, by unfold ldN; rw [h1]; rfl⟩
    clear hl hx
    go_quiet (fail)
    go_wp2_with fail
    go_ret2
    exact ⟨ret_ld HN.out, ab_drewN hw5 _⟩
  · have HB : ldB S = (decide (x.h = S.nd) && decide (x.l = S.lf)) := by unfold ldB; rw [hl, hx]; rfl
    by_cases h1 : x.h = S.nd
    · by_cases h2 : x.l = S.lf
      · rw [decide_eq_true h1, decide_eq_true h2] at HB
        have HN : Hid (ldB S = true ∧ ldN S = x.e) := ⟨HB, by unfold ldN; rw [HB, hx]; rfl⟩
        have p1 : (x.h == S.nd) = true := by simp [h1]
        have p2 : (x.l == S.lf) = true := by simp [h2]
        clear hl hx h1 h2 HB
        go_quiet (fail)
        go_wp2_with fail
        go_ret2
        exact ⟨ret_ld HN.out, ab_drewN hw5 _⟩
      · rw [decide_eq_false h2, Bool.and_false] at HB
        have HN : Hid (ldB S = false ∧ ldN S = 0) := ⟨HB, by unfold ldN; rw [HB]; rfl⟩
        have p1 : (x.h == S.nd) = true := by simp [h1]
        have p2 : (x.l == S.lf) = false := by simp [h2]
        clear hl hx h1 h2 HB
        go_quiet (fail)
        go_wp2_with fail
        go_ret2
        exact ⟨ret_ld HN.out, ab_drewN hw5 _⟩
    · rw [decide_eq_false h1, Bool.false_and] at HB
      have HN : Hid (ldB S = false ∧ ldN S = 0) := ⟨HB, by unfold ldN; rw [HB]; rfl⟩
      have p1 : (x.h == S.nd) = false := by simp [h1]
      clear hl hx h1 HB
      go_quiet (fail)
      go_wp2_with fail
      go_ret2
      exact ⟨ret_ld HN.out, ab_drewN hw5 _⟩
end Go.Proofs.Ytddpdmolknfjaaa
