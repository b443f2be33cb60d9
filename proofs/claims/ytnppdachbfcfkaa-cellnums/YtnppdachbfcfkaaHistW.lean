/-
  The Hist that has some pairs: cell.histOf.
-/
import Derived.Test.YtnppdachbfcfkaaNumsP
import Derived.Test.YtnppdachbfcfkaaIntsOwn
import Derived.Test.YtnppdachbfcfkaaSteps
namespace Go.Proofs.Ytnppdachbfcfkaa
open Go.RowKit
set_option linter.unusedVariables false

section
variable {ops : Array Oper} {rest : List Oper} {o : Oper} {a : Act} {w : World} {Q : Exit → Act → World → Prop}
theorem st_hist (hgd : o.guard = none) {x y : Operand} (ho : o.op = .store 29 x y) {b : Nat} {c d : Nat → Int} {t : TypeId} (hB : Blk w b (HA d) t) (hx : a.eval x = .pointer (some ⟨b, 0, none⟩)) (hy : a.eval y = .agg (HA c))
    (h : ∀ W', Blk W' b (HA c) t → Chg b w W' → wpList Try.prog ops Q rest (a.put o.dst undef) W') : wpList Try.prog ops Q (o :: rest) a w :=
  st_blk hgd ho hB hx hy (info_hist c) (by rw [HA_size, HA_size]) (HA_one c) h
theorem al_hist (hgd : o.guard = none) (ho : o.op = .alloc 29)
    (h : ∀ W', W' = w.alloc (.cells (HA zc) 29) → Blk W' w.heap.size (HA zc) 29 → Below w.heap.size w W' → wpList Try.prog ops Q rest (a.put o.dst (.pointer (some ⟨w.heap.size, 0, none⟩))) W') : wpList Try.prog ops Q (o :: rest) a w :=
  al_blk hgd ho (HA zc) (zero_hist w) h
theorem bd_hist (hw : Region.wanted o (yielded ops a.tmps) = true) (ho : o.op = .build 29 #[])
    (h : wpList Try.prog ops Q rest (a.put o.dst (.agg (HA zc))) w) : wpList Try.prog ops Q (o :: rest) a w :=
  val_step hw _ (bd_run ho (show Try.prog.built 29 [] = some (HA zc) from by kernel_rfl) (by simp) w) h
end
theorem Blk.setH {W : World} {b : Nat} {c : Nat → Int} {t : TypeId} (h : Blk W b (HA c) t) (i : Nat) (v : Int) (hi : i < 65) : Blk (W.setCell ⟨b, i, none⟩ (.int .i64 v)) b (HA (cup c i v)) t := by
  have := h.set i (.int .i64 v)
  rwa [HA_set c i v hi] at this
theorem results_c2 {P : Program} {fn : Func} {p s : Tmp} {ty : TypeId} (h : fn.results = #[.cell p ty, .tmp s]) (tmps : Array Value) (w : World) (g : Nat) (t : TypeId) (cs : Array Value) (fr : Nat × Nat) (d : TypeDesc) (u : Value)
    (hp : tmps.getD p undef = .pointer (some ⟨g, 0, none⟩)) (hs : tmps.getD s undef = u) (hg : w.heap[g]? = some (.cells cs t fr))
    (hu : P.underlying ty = some d) (hd : (match d with | .struct _ | .array _ _ => true | _ => false) = true) (hi : (P.info? ty).map (·.size) = some cs.size) :
    (results fn tmps).run P w = .ok (.tuple #[.agg cs, u]) w := by
  have hp' : tmps[p]?.getD undef = .pointer (some ⟨g, 0, none⟩) := by simpa using hp
  have hs' : tmps[s]?.getD undef = u := by simpa using hs
  simp [results, h, hp', hs', asAddr, run_loadVar_row w g t ty cs fr d hg hu hd hi]
theorem results_c3 {P : Program} {fn : Func} {p s r : Tmp} {ty : TypeId} (h : fn.results = #[.cell p ty, .tmp s, .tmp r]) (tmps : Array Value) (w : World) (g : Nat) (t : TypeId) (cs : Array Value) (fr : Nat × Nat) (d : TypeDesc) (u v : Value)
    (hp : tmps.getD p undef = .pointer (some ⟨g, 0, none⟩)) (hs : tmps.getD s undef = u) (hr : tmps.getD r undef = v) (hg : w.heap[g]? = some (.cells cs t fr))
    (hu : P.underlying ty = some d) (hd : (match d with | .struct _ | .array _ _ => true | _ => false) = true) (hi : (P.info? ty).map (·.size) = some cs.size) :
    (results fn tmps).run P w = .ok (.tuple #[.agg cs, u, v]) w := by
  have hp' : tmps[p]?.getD undef = .pointer (some ⟨g, 0, none⟩) := by simpa using hp
  have hs' : tmps[s]?.getD undef = u := by simpa using hs
  have hr' : tmps[r]?.getD undef = v := by simpa using hr
  simp [results, h, hp', hs', hr', asAddr, run_loadVar_row w g t ty cs fr d hg hu hd hi]

def histR (ps : List PV) : Value := match foldH ps with
  | some s => .tuple #[.agg (HA s.2), .bool true]
  | none => .tuple #[.agg (HA zc), .bool false]

set_option maxHeartbeats 1000000 in
theorem histof_any (q : Option Addr) (g off n cap : Nat) (ps : List PV) (w : World) (hn : 2 * ps.length = n) (hb : n ≤ 10000) (hp : 0 < n → q = some ⟨g, off, none⟩) (hg : 0 < n → g < w.heap.size) (hr : IRow w g off (flatP ps)) :
    Calls Try.prog 30 #[.slice q n cap] w fun e w' => e = .returned (histR ps) ∧ Below w.heap.size w w' := by
  go_enter Try.func30, Try.ntmps30
  go_upto_region 1 with (refine al_hist rfl rfl ?_; intro W1 e1 hR1 b1; clear e1)
  go_upto_region 2 with (refine al_hist rfl rfl ?_; intro W2 e2 hX2 b2; clear e2)
  have hR2 := hR1.keep b2
  have hw2 := ab_trans b1 b2
  have hXR : w.heap.size < W1.heap.size := hR1.lt
  clear hR1 b1 b2
  generalize W1.heap.size = X at *
  go_wp2_with fail
  go_loopw [5, 6] (fun nv i wr => ∃ (j nx : Nat) (h : Nat → Int), j ≤ ps.length ∧ i = .int .i64 ((2 * j : Nat) : Int) ∧ nv = .int .i64 (nx : Int) ∧ nx ≤ 65 ∧ foldH (ps.take j) = some (nx, h) ∧ Blk wr X (HA h) 29 ∧ Blk wr w.heap.size (HA zc) 29 ∧ Below w.heap.size w wr) (fun _ i _ => n - (intOf i).toNat)
  case atStart => exact ⟨0, 0, zc, by omega, rfl, rfl, by omega, rfl, hX2, hR2, hw2⟩
  case round =>
    clear hX2 hR2 hw2
    obtain ⟨j, nx, h, hj, rfl, rfl, hnx, hf, hX, hR, hw⟩ := hrel
    by_cases c : j = ps.length
    · subst c
      have HR : Hid (histR ps = .tuple #[.agg (HA h), .bool true]) := by show _ = _; rw [List.take_length] at hf; unfold histR; rw [hf]
      have hni : (n : Int) ≤ ((2 * ps.length : Nat) : Int) := by omega
      clear hf hr
      go_wp2_with (first
        | (refine ld_hist rfl rfl hX rfl ?_)
        | (refine st_hist rfl rfl hR rfl rfl ?_; intro W9 hR9 C9))
      exact bodyPost_ret (results_c2 rfl _ _ _ 29 _ (0, 0) _ _ rfl rfl hR9 Try.underlying29 rfl (info_hist _)) rfl ⟨by rw [HR.out]; rfl, ab_chg hw C9 (by omega)⟩
    · obtain ⟨p, hpj⟩ : ∃ p, ps[j]? = some p := ⟨ps[j], List.getElem?_eq_getElem (by omega)⟩
      obtain rfl := hp (by omega)
      obtain ⟨x1, x2⟩ := flatP_at ps j p hpj
      have d1 := (hw.cell (p := ⟨g, off + 2 * j, none⟩) (hg (by omega))).trans (hr _ _ x1)
      have d2 := (hw.cell (p := ⟨g, off + (2 * j + 1), none⟩) (hg (by omega))).trans (hr _ _ x2)
      have hji : ((2 * j : Nat) : Int) + 1 < (n : Int) := by omega
      have hji0 : ((2 * j : Nat) : Int) < (n : Int) := by omega
      have HF : Hid (foldH (ps.take (j + 1)) = stepH (some (nx, h)) p) := by show _ = _; rw [List.take_add_one, hpj, ← hf]; exact foldH_snoc _ _
      obtain ⟨p1, p2⟩ := p
      dsimp only at d1 d2
      have e2 : ((2 * j + 1 : Nat) : Int) = ((2 * j : Nat) : Int) + 1 := by omega
      clear hr x1 x2 hpj hf hp
      go_upto_region 6 with fail
      go_quiet (fail)
      have hX1 := hX.keep (ab_drewN (Below.refl _ wr) nq)
      have hR1 := hR.keep (ab_drewN (Below.refl _ wr) nq)
      have hw1 := ab_drewN hw nq
      clear hX hR hw d1 d2 e2
      generalize wr.drewN nq = V at *
      by_cases bad : p1 < (nx : Int) ∨ 65 ≤ p1 ∨ p2 = 0
      · have HR : Hid (histR ps = .tuple #[.agg (HA zc), .bool false]) := by
          show _ = _
          have h1 : foldH (ps.take (j + 1)) = none := by rw [HF.out]; simp only [stepH]; rw [if_pos bad]
          have h2 := foldH_stuck (ps.take (j + 1)) (ps.drop (j + 1)) h1
          rw [List.take_append_drop] at h2
          unfold histR; rw [h2]
        clear HF
        by_cases t1 : p1 < (nx : Int)
        · clear bad
          go_wp2_with (first
            | (refine bd_hist rfl rfl ?_)
            | (refine st_hist rfl rfl hR1 rfl rfl ?_; intro W9 hR9 C9))
          exact bodyPost_ret (results_c2 rfl _ _ _ 29 _ (0, 0) _ _ rfl rfl hR9 Try.underlying29 rfl (info_hist _)) rfl ⟨by rw [HR.out]; rfl, ab_chg hw1 C9 (by omega)⟩
        · have t1' : decide (p1 < (nx : Int)) = false := decide_eq_false t1
          by_cases t2 : 65 ≤ p1
          · clear bad t1
            go_wp2_with (first
              | (refine bd_hist rfl rfl ?_)
              | (refine st_hist rfl rfl hR1 rfl rfl ?_; intro W9 hR9 C9))
            exact bodyPost_ret (results_c2 rfl _ _ _ 29 _ (0, 0) _ _ rfl rfl hR9 Try.underlying29 rfl (info_hist _)) rfl ⟨by rw [HR.out]; rfl, ab_chg hw1 C9 (by omega)⟩
          · have t2' : decide (65 ≤ p1) = false := decide_eq_false t2
            have t3 : p2 = 0 := by omega
            subst t3
            clear bad t1 t2
            go_wp2_with (first
              | (refine bd_hist rfl rfl ?_)
              | (refine st_hist rfl rfl hR1 rfl rfl ?_; intro W9 hR9 C9))
            exact bodyPost_ret (results_c2 rfl _ _ _ 29 _ (0, 0) _ _ rfl rfl hR9 Try.underlying29 rfl (info_hist _)) rfl ⟨by rw [HR.out]; rfl, ab_chg hw1 C9 (by omega)⟩
      · have HN : Hid (foldH (ps.take (j + 1)) = some (p1.toNat + 1, cup h p1.toNat p2)) := by show _ = _; rw [HF.out]; simp only [stepH]; rw [if_neg bad]
        obtain ⟨m, rfl⟩ : ∃ m : Nat, p1 = (m : Int) := ⟨p1.toNat, by omega⟩
        rw [Int.toNat_natCast] at HN
        have t1 : decide ((m : Int) < (nx : Int)) = false := decide_eq_false (by omega)
        have t2 : decide (65 ≤ (m : Int)) = false := decide_eq_false (by omega)
        have t3 : (p2 == 0) = false := beq_eq_false_iff_ne.2 (fun e => bad (.inr (.inr e)))
        have hm : m < 65 := by omega
        have hmi : (m : Int) < 65 := by omega
        have cm := hX1.at (HA_at h m hm)
        have fm := hX1.frozen m
        have hnm : nx ≤ m := by omega
        clear bad HF
        go_wp2_with fail
        go_roundw
        case rel => exact ⟨j + 1, m + 1, cup h m p2, by omega, by go_num, by go_num, by omega, HN.out, hX1.setH m p2 hm, hR1.chg (chg_set _ _ _ _) (by omega), ab_chg hw1 (chg_set _ _ _ _) (by omega)⟩
        case measure => simp [intOf]; omega
theorem histof_yes (q : Option Addr) (g off n cap : Nat) (ps : List PV) (nx : Nat) (h : Nat → Int) (w : World) (hf : foldH ps = some (nx, h)) (hn : 2 * ps.length = n) (hb : n ≤ 10000) (hp : 0 < n → q = some ⟨g, off, none⟩) (hg : 0 < n → g < w.heap.size) (hr : IRow w g off (flatP ps)) :
    Calls Try.prog 30 #[.slice q n cap] w fun e w' => e = .returned (.tuple #[.agg (HA h), .bool true]) ∧ Below w.heap.size w w' := by
  have := histof_any q g off n cap ps w hn hb hp hg hr
  unfold histR at this; rwa [hf] at this
theorem histof_no (q : Option Addr) (g off n cap : Nat) (ps : List PV) (w : World) (hf : foldH ps = none) (hn : 2 * ps.length = n) (hb : n ≤ 10000) (hp : 0 < n → q = some ⟨g, off, none⟩) (hg : 0 < n → g < w.heap.size) (hr : IRow w g off (flatP ps)) :
    Calls Try.prog 30 #[.slice q n cap] w fun e w' => e = .returned (.tuple #[.agg (HA zc), .bool false]) ∧ Below w.heap.size w w' := by
  have := histof_any q g off n cap ps w hn hb hp hg hr
  unfold histR at this; rwa [hf] at this
end Go.Proofs.Ytnppdachbfcfkaa
