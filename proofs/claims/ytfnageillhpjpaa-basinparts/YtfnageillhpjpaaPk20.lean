/-
  An operation's cells: place.Ids.
-/
import Derived.Test.YtfnageillhpjpaaPk16
import Derived.Test.YtfnageillhpjpaaPk11
import Derived.Test.YtfnageillhpjpaaPk19
namespace Go.Proofs.Ytfnageillhpjpaa
set_option maxRecDepth 100000
open Go.RowKit
set_option linter.unusedVariables false

/-- The cells of a time and a key. -/
def idAt (t key sh : Int) (i : Nat) (r : Int) : Int × Int × Int := (lnN (i : Int) (flM key sh) sh, flD t r, key)
def idL (t key sh : Int) (l : List Int) : List (Int × Int × Int) := l.zipIdx.map fun x => idAt t key sh x.2 x.1
theorem idL_len (t key sh : Int) (l : List Int) : (idL t key sh l).length = l.length := by simp [idL]
theorem idL_at (t key sh : Int) (l : List Int) (j : Nat) : (idL t key sh l)[j]? = l[j]?.map (idAt t key sh j) := by
  simp only [idL, List.getElem?_map, List.getElem?_zipIdx, Nat.zero_add, Option.map_map]; rfl
theorem idL_snoc (t key sh : Int) (l : List Int) (k : Nat) (r : Int) (hr : l[k]? = some r) : idL t key sh (l.take (k + 1)) = idL t key sh (l.take k) ++ [idAt t key sh k r] := by
  have hk : k < l.length := (List.getElem?_eq_some_iff.1 hr).1
  rw [List.take_add_one, hr]
  simp only [idL, Option.toList_some, List.zipIdx_append, List.map_append, List.length_take, Nat.min_eq_left (Nat.le_of_lt hk)]
  simp

abbrev Opv (s k t key v : Int) : Value := .agg #[.int .i64 s, .int .i64 k, .int .i64 t, .int .i64 key, .int .i64 v]
theorem infoId : (Try.prog.info? 47).map (fun i => (i.zero, i.size, i.bytes)) = some (some (.agg #[.int .i64 0, .int .i64 0, .int .i64 0]), 3, 24) := by kernel_rfl
theorem bid1 (x y z : Int) (w : World) : (Instr.buildSlice 44 1 #[(0, .agg #[.int .i64 x, .int .i64 y, .int .i64 z])]).run Try.prog w = .ok (.slice (some ⟨w.heap.size, 0, none⟩) 1 1) (w.alloc (.cells #[.int .i64 x, .int .i64 y, .int .i64 z] 47)) := by kernel_rfl
theorem bidW {o : Oper} {a : Act} {w : World} {K : Act → World → Prop} {Q : Exit → Act → World → Prop} (d : Option Tmp) (hd : o.dst = d) {parts : Array (Nat × Operand)} (ho : o.op = .buildSlice 44 1 parts) (x y z : Int)
    (hl : parts.map (fun (i, x) => (i, a.eval x)) = #[(0, .agg #[.int .i64 x, .int .i64 y, .int .i64 z])])
    (h : ∀ W', Blk W' w.heap.size #[.int .i64 x, .int .i64 y, .int .i64 z] 47 → Below w.heap.size w W' → K (a.put d (.slice (some ⟨w.heap.size, 0, none⟩) 1 1)) W') : o.wp Try.prog a w K Q := by
  subst hd
  unfold Oper.wp execOp
  simp only [ho, Sem.run_bind, hl, bid1, Result.andThen_ok]
  exact h _ (Blk.new _ _ _) ((Below.refl _ _).alloc (Nat.le_refl _) _)
theorem built_plc (x y : Int) : Try.prog.built 38 [(0, .int .i64 x), (1, .int .i64 y)] = some #[.int .i64 x, .int .i64 y] := by kernel_rfl
theorem built_id (x y z : Int) : Try.prog.built 47 [(0, .int .i64 x), (1, .agg #[.int .i64 y, .int .i64 z])] = some #[.int .i64 x, .int .i64 y, .int .i64 z] := by kernel_rfl
theorem lane_b (i s n : Int) (w : World) : Calls Try.prog 61 #[.int .i64 i, .int .i64 s, .int .i64 n] w fun e w' => e = .returned (.int .i64 (lnN i s n)) ∧ Below w.heap.size w w' :=
  (lane_any i s n w).mono fun _ _ ⟨he, hw⟩ => ⟨he, hw ▸ Below.refl _ _⟩
theorem div_b (t r : Int) (w : World) (h0 : -9223372036854775808 ≤ t) (h1 : t ≤ 9223372036854775807) (g1 : r ≤ 9223372036854775807) :
    Calls Try.prog 46 #[.int .i64 t, .int .i64 r] w fun e w' => e = .returned (.int .i64 (flD t r)) ∧ Below w.heap.size w w' :=
  (div_any t r w h0 h1 g1).mono fun _ _ ⟨he, n, hw⟩ => ⟨he, hw ▸ ab_drewN (Below.refl _ _) _⟩

set_option maxRecDepth 100000 in
set_option maxHeartbeats 1000000 in
theorem ids_any (s0 s1 t key s4 : Int) (q : Option Addr) (g off n cap : Nat) (l : List Int) (sh : Int) (w : World) (hn : l.length = n) (hb : n ≤ 100000) (hp : 0 < n → q = some ⟨g, off, none⟩) (hg : 0 < n → g < w.heap.size) (hr : IRow w g off l)
    (t0 : -9223372036854775808 ≤ t) (t1 : t ≤ 9223372036854775807) (k0 : -9223372036854775808 ≤ key) (k1 : key ≤ 9223372036854775807) (h1 : sh ≤ 9223372036854775807) (hl : ∀ (j : Nat) (r : Int), l[j]? = some r → r ≤ 9223372036854775807) :
    Calls Try.prog 52 #[Opv s0 s1 t key s4, .slice q n cap, .int .i64 sh] w fun e w' => ∃ v, e = .returned v ∧ w'.ownsRow w.heap.size 47 3 v n (flat3 (idL t key sh l)) ∧ v ≠ .slice none 0 0 ∧ Below w.heap.size w w' := by
  go_enter Try.func52, Try.ntmps52
  go_upto_region 1 with fail
  have hA0 := Blk.new w #[.int .i64 s0, .int .i64 s1, .int .i64 t, .int .i64 key, .int .i64 s4] 27
  have hwA : Below w.heap.size w (w.alloc (.cells #[.int .i64 s0, .int .i64 s1, .int .i64 t, .int .i64 key, .int .i64 s4] 27)) := ab_alloc (Below.refl _ _) _
  generalize w.alloc (.cells #[.int .i64 s0, .int .i64 s1, .int .i64 t, .int .i64 key, .int .i64 s4] 27) = A at *
  have hrA := irow_keep hr (by omega) hwA
  have hgA : 0 < n → g < A.heap.size := fun h => Nat.lt_of_lt_of_le (hg h) hwA.size
  clear hr hg
  go_upto_region 2 with (refine mk_own A rfl rfl Try.underlying44 infoId rfl rfl rfl (by omega) (by unfold maxLen; omega) (Below.refl _ _) ?_; intro v1 W1 hown hv hb1 hb1'; clear hb1')
  have hA1 := hA0.keep hb1
  have c3 := hA1.at (i := 3) rfl
  go_upto_region 3 with (go_at_call 60; refine (shard_any key sh _ k0 k1 h1).mono ?_; rintro e W2 ⟨rfl, n2, rfl⟩)
  have hown2 := own_keep hown (ab_drewN (Below.refl _ _) n2)
  have hb2 := ab_drewN hb1 n2
  generalize hfm : flM key sh = fm at *
  generalize W1.drewN n2 = W2 at *
  clear hown hb1 hA1 c3 W1
  go_wp2_with fail
  go_loopw [7, 20] (fun v i wr => ∃ k : Nat, k ≤ n ∧ i = .int .i64 (k : Int) ∧ wr.ownsRow A.heap.size 47 3 v k (flat3 (idL t key sh (l.take k))) ∧ v ≠ .slice none 0 0 ∧ Below A.heap.size A wr) (fun _ i _ => n - (intOf i).toNat)
  case atStart => exact ⟨0, by omega, rfl, hown2, hv, hb2⟩
  case round =>
    clear hown2 hv hb2
    obtain ⟨k, hk, rfl, hown, hv, hb2⟩ := hrel
    by_cases c : k = n
    · subst c
      rw [List.take_of_length_le (by omega)] at hown
      clear hl hrA hp hgA
      go_wp2_with fail
      go_ret
      exact ⟨_, rfl, own_less hown hwA.size, hv, ab_trans hwA hb2⟩
    · obtain ⟨r, hrk⟩ : ∃ r, l[k]? = some r := ⟨l[k], List.getElem?_eq_getElem (by omega)⟩
      obtain rfl := hp (by omega)
      have cr := (hb2.cell (p := ⟨g, off + k, none⟩) (hgA (by omega))).trans (hrA k r hrk)
      have hrm := hl k r hrk
      have hki : (k : Int) < (n : Int) := by omega
      have HI : Hid (flat3 (idL t key sh (l.take k)) ++ [.int .i64 (lnN (k : Int) fm sh), .int .i64 (flD t r), .int .i64 key] = flat3 (idL t key sh (l.take (k + 1)))) := by
        show _ = _
        rw [idL_snoc t key sh l k r hrk, flat3_append, ← hfm]; rfl
      have hAr := hA0.keep hb2
      clear hl hrA hp hgA hrk hfm
      go_upto_region 6 with fail
      refine wp_region_held_drew (S := fun w' => w'.cell? ⟨w.heap.size, 2, none⟩ = some (.int .i64 t) ∧ w'.cell? ⟨w.heap.size, 3, none⟩ = some (.int .i64 key) ∧ Below A.heap.size A w') (by kernel_rfl) ⟨hAr.at (i := 2) rfl, hAr.at (i := 3) rfl, ab_drew hb2⟩ (fun hHeld => ?_)
      have hown0 : wr.drew.ownsRow A.heap.size 47 3 _ k (flat3 (idL t key sh (l.take k))) := hown
      clear hown hb2 hAr cr
      refine takeH (i := 0) (some 25) rfl rfl (by kernel_rfl) (by kernel_rfl) (by kernel_rfl) (fun _ _ _ h => h) (by rfl) (fun w hSw => by (try dsimp only at hSw); go_simp; try rfl) hHeld ?_
      go_frame
      refine takeH (i := 1) (some 26) rfl rfl (by kernel_rfl) (by kernel_rfl) (by kernel_rfl) (fun _ _ _ h => h) (by rfl) (fun w hSw => by (try dsimp only at hSw); go_simp; try rfl) hHeld ?_
      go_frame
      refine takeH (i := 2) (some 27) rfl rfl (by kernel_rfl) (by kernel_rfl) (by kernel_rfl) (fun _ _ _ h => h) (by rfl) (fun w hSw => by (try dsimp only at hSw); go_simp; try rfl) hHeld ?_
      go_frame
      refine takeH (i := 3) (some 28) rfl rfl (by kernel_rfl) (by kernel_rfl) (by kernel_rfl) (fun _ _ _ h => h) (by rfl) (fun w hSw => by (try dsimp only at hSw); go_simp; try rfl) hHeld ?_
      go_frame
      refine takeH (i := 5) (some 30) rfl rfl (by kernel_rfl) (by kernel_rfl) (by kernel_rfl) (fun _ _ _ h => h) (by rfl) (fun w hSw => by (try dsimp only at hSw); go_simp; try rfl) hHeld ?_
      go_frame
      refine takeH (i := 6) (some 31) rfl rfl (by kernel_rfl) (by kernel_rfl) (by kernel_rfl) (fun _ _ _ h => h) (by rfl) (fun w hSw => by (try dsimp only at hSw); (obtain ⟨q2, q3, -⟩ := hSw; go_simp; try rfl)) hHeld ?_
      go_frame
      refine takeH (i := 7) (some 32) rfl rfl (by kernel_rfl) (by kernel_rfl) (by kernel_rfl) (fun _ _ _ h => h) (by rfl) (fun w hSw => by (try dsimp only at hSw); go_simp; try rfl) hHeld ?_
      go_frame
      refine takeH (i := 9) (some 34) rfl rfl (by kernel_rfl) (by kernel_rfl) (by kernel_rfl) (fun _ _ _ h => h) (by rfl) (fun w hSw => by (try dsimp only at hSw); go_simp; try rfl) hHeld ?_
      go_frame
      refine takeH (i := 10) (some 35) rfl rfl (by kernel_rfl) (by kernel_rfl) (by kernel_rfl) (fun _ _ _ h => h) (by rfl) (fun w hSw => by (try dsimp only at hSw); (obtain ⟨q2, q3, -⟩ := hSw; go_simp; try rfl)) hHeld ?_
      go_frame
      have hz : w.heap.size < A.heap.size := hA0.lt
      refine wpAnyH_ready (rs := [4]) (by kernel_rfl) (by simp) (AllReadyH.cons rfl (fun K hK => ?_) AllReadyH.nil)
      go_simp
      refine (lane_b _ _ _ _).mono ?_
      rintro e Wn ⟨rfl, bn⟩
      show K _ _
      have hz1 := Nat.lt_of_lt_of_le hz hHeld.2.2.size
      have hown1 := own_keep hown0 bn
      refine hK.out _ _ ⟨keep_cell bn hHeld.1 hz1, keep_cell bn hHeld.2.1 hz1, ab_trans hHeld.2.2 bn⟩ (fun hHeld => ?_)
      clear hK K bn hown0 hz1
      refine wpAnyH_ready (rs := [8]) (by kernel_rfl) (by simp) (AllReadyH.cons rfl (fun K hK => ?_) AllReadyH.nil)
      go_simp
      refine (div_b _ _ _ t0 t1 hrm).mono ?_
      rintro e W4 ⟨rfl, bn⟩
      show K _ _
      have hz1 := Nat.lt_of_lt_of_le hz hHeld.2.2.size
      have hown2 := own_keep hown1 bn
      refine hK.out _ _ ⟨keep_cell bn hHeld.1 hz1, keep_cell bn hHeld.2.1 hz1, ab_trans hHeld.2.2 bn⟩ (fun hHeld => ?_)
      clear hK K bn hown1 hz1
      refine takeH (i := 11) (some 36) rfl rfl (by kernel_rfl) (by kernel_rfl) (by kernel_rfl) (fun _ _ _ h => h) (by rfl) (fun w hSw => by (try dsimp only at hSw); exact bd_run rfl (built_plc (flD t r) key) (by simp only [List.map_toArray, List.map_cons, List.map_nil]; rfl) _) hHeld ?_
      go_frame
      refine takeH (i := 12) (some 37) rfl rfl (by kernel_rfl) (by kernel_rfl) (by kernel_rfl) (fun _ _ _ h => h) (by rfl) (fun w hSw => by (try dsimp only at hSw); exact bd_run rfl (built_id (lnN (k : Int) fm sh) (flD t r) key) (by simp only [List.map_toArray, List.map_cons, List.map_nil]; rfl) _) hHeld ?_
      go_frame
      refine wpAnyH_ready (rs := [13]) (by kernel_rfl) (by simp) (AllReadyH.cons rfl (fun K hK => ?_) AllReadyH.nil)
      rw [if_pos (by rfl)]
      refine bidW (some 38) rfl rfl (lnN (k : Int) fm sh) (flD t r) key (by simp only [List.map_toArray, List.map_cons, List.map_nil]; rfl) fun W5 hB5 bn => ?_
      have hz1 := Nat.lt_of_lt_of_le hz hHeld.2.2.size
      have hown3 := own_keep hown2 bn
      refine hK.out _ _ ⟨keep_cell bn hHeld.1 hz1, keep_cell bn hHeld.2.1 hz1, ab_trans hHeld.2.2 bn⟩ (fun hHeld => ?_)
      clear hK K bn hown2 hz1
      go_frame
      refine wpAnyH_ready (rs := [14]) (by kernel_rfl) (by simp) (AllReadyH.cons rfl (fun K hK => ?_) AllReadyH.nil)
      rw [if_pos (by rfl)]
      refine appW A (some 39) rfl rfl Try.underlying44 infoId rfl (by omega) rfl hown3 [.int .i64 (lnN (k : Int) fm sh), .int .i64 (flD t r), .int .i64 key] rfl (fun h => by cases h) rfl ?_ (by simp [Value.oneCell']) (by unfold maxLen; omega) (by omega) hHeld.2.2 ?_
      · intro ad had j u hu
        cases had
        rw [Addr.add_mid, Nat.zero_add, hB5.cell]; simpa using hu
      intro v' W6 hown' hnil hb6 hgr
      have hv' : v' ≠ .slice none 0 0 := fun e => hv (hnil.1 e).1
      rw [HI.out] at hown'
      refine hK.out _ _ ⟨(hA0.keep hb6).at (i := 2) rfl, (hA0.keep hb6).at (i := 3) rfl, hb6⟩ (fun hHeld => ?_)
      clear hK K hnil hgr hown3 hB5
      go_frame
      refine takeH (i := 15) (some 7) rfl rfl (by kernel_rfl) (by kernel_rfl) (by kernel_rfl) (fun _ _ _ h => h) (by rfl) (fun w hSw => by (try dsimp only at hSw); go_simp; try rfl) hHeld ?_
      go_frame
      refine wpAnyH_done (by kernel_rfl) ?_ _
      go_wp2_with fail
      go_roundw
      case rel => exact ⟨k + 1, by omega, by go_num, hown', hv', hb6⟩
      case measure => simp [intOf]; omega
end Go.Proofs.Ytfnageillhpjpaa
