/-
  spring: the stream that rows of operations tell.
-/
import Derived.Test.YthmolbcnbcajdaaGreatPk46
import Derived.Test.YthmolbcnbcajdaaGreatPk27
import Derived.Test.YthmolbcnbcajdaaGreatPk29
import Derived.Test.YthmolbcnbcajdaaGreatPk38
namespace Go.Proofs.YthmolbcnbcajdaaGreat
open Go.RowKit
set_option linter.unusedVariables false
set_option maxRecDepth 100000

theorem Lis.frm {W W' : World} {X : Nat → Prop} {base : Nat} {v : Value} {vs : List Value} {ls : List (List Nat)} (h : Lis W base v vs ls) (hf : Frm X W W') (hx : ∀ k, X k → ¬ kindR W k 5 ∧ ¬ kindR W k 68) : Lis W' base v vs ls :=
  ⟨own_at h.row fun g hg => hf.other g (World.ownsRow.lt h.row g hg).2 (fun e => (hx g e).2 (own_kindR h.row hg)), ⟨h.bag.len, fun j v l hv hl => own_at (h.bag.own j v l hv hl) fun g hg => hf.other g ((h.bag.own j v l hv hl).lt g hg).2 (fun e => (hx g e).1 (own_kindR (h.bag.own j v l hv hl) hg)), h.bag.sep⟩, h.sep⟩
/-- None of a stream's blocks holds bytes. -/
theorem Sq.noB {W : World} {B b : Nat} {vr vh vc : Value} {S : Sm} (h : Sq W B b vr vh vc S) : ∀ k, bkS b vh vc k → ¬ kindR W k 5 ∧ ¬ kindR W k 68 := by
  intro k hk
  rcases hk with rfl | hk | hk
  · exact ⟨fun e => absurd (h.blk.kindR.uniq e) (by decide), fun e => absurd (h.blk.kindR.uniq e) (by decide)⟩
  · exact ⟨fun e => absurd ((own_kindR h.he hk).uniq e) (by decide), fun e => absurd ((own_kindR h.he hk).uniq e) (by decide)⟩
  · exact ⟨fun e => absurd ((own_kindR h.ce hk).uniq e) (by decide), fun e => absurd ((own_kindR h.ce hk).uniq e) (by decide)⟩
theorem sliced0 (q : Option Addr) (n cap sz : Nat) : sliced q 0 n cap sz = .slice q n cap := by
  unfold sliced
  by_cases c : cap = 0
  · rw [if_pos c]; simp
  · rw [if_neg c]
    cases q with
    | none => simp
    | some a => simp [Addr.add]
theorem eltBy : Tryz.prog.underlying 56 = some (.slice (Tryz.prog.elem 56)) := by kernel_rfl
theorem sizeBy (w : World) : (sizeOf (Tryz.prog.elem 56)).run Tryz.prog w = .ok 1 w := by kernel_rfl
theorem op_nums {o : Op5} (h : Fit5 o) : numsR (opB o) 29 = some (opL o) := numsR_some (nus_put _ (opL_in h)) (.inr (by show (6 : Int) ≤ 29; omega))
theorem opB_byt (o : Op5) : Byt (opB o) := numsB_byt (opL o)
theorem opB_len (o : Op5) : (opB o).length ≤ 60 := by
  have := numsB_len (opL o)
  have h2 : (opL o).length = 6 := rfl
  unfold opB
  omega
set_option maxHeartbeats 2000000 in
theorem begun_ops (b : Nat) (q : Option Addr) (cap : Nat) (vs : List Value) (os : List Op5) (w : World) (hL : Ls w (.slice q os.length cap) vs (os.map opB)) (hf : ∀ o ∈ os, Fit5 o) :
    Calls Tryz.prog 43 #[sptr b, .slice q os.length cap] w fun e w' => e = .returned (.tuple #[sptr b, .int .i64 0, .nilIface]) ∧ Below w.heap.size w w' := by
  cases os with
  | nil =>
    go_enter Tryz.func43, Tryz.ntmps43
    go_wp2_with fail
    go_ret3
    exact ⟨rfl, Below.refl _ _⟩
  | cons o r =>
    obtain ⟨q9, cap9, g9, o9, e9, hc9, hm9, hp9, hg9, hr9⟩ := hL.open
    obtain ⟨u, hu⟩ : ∃ u, vs[0]? = some u := ⟨vs[0]'(by rw [hL.len]; simp), List.getElem?_eq_getElem _⟩
    have hsl := hL.each 0 u (opB o) hu rfl
    have hN := fnums_any u (opB o) 29 w hsl (opB_byt o) (by have := opB_len o; omega)
    rw [op_nums (hf o (by simp))] at hN
    unfold opL at hN
    have hne : (((o :: r).length : Int) == 0) = false := by rw [beq_eq_false_iff_ne, List.length_cons]; omega
    have hq : q = some ⟨g9, o9, none⟩ := by
      have := hp9 (by simp)
      injection e9 with a1 a2 a3
      rw [a1]; exact this
    subst hq
    have c0 : w.cell? ⟨g9, o9, none⟩ = some u := hr9 0 u hu
    have hpos : (0 : Int) < ((o :: r).length : Int) := by rw [List.length_cons]; omega
    have hpn : 0 < (o :: r).length := by simp
    generalize (o :: r).length = n at *
    obtain ⟨qu, cu, eu, -⟩ := id hsl
    subst eu
    clear hL hf hr9 hp9 hg9 e9 hsl hu
    have e2 := spn0
    go_enter Tryz.func43, Tryz.ntmps43
    go_wp2_with (go_at_call 65; refine hN.mono ?_; rintro e W2 ⟨hp, b2⟩; obtain ⟨v2, hp2, hO2⟩ := hp.1 _ rfl; subst hp2; obtain ⟨q2, c2, g2, o2, ev, hc2, hm2, hq2, hg2, hr2⟩ := hO2.is; subst ev; have hq2 := hq2 (by simp); subst hq2; have y0 : W2.cell? ⟨g2, o2, none⟩ = some (.int .i64 1) := hr2 0 1 rfl)
    go_ret3
    exact ⟨rfl, b2⟩
/-- A stream behind operations. -/
def putsS (S : Sm) (os : List Op5) : Sm := os.foldl putS S
theorem puts_snoc {S : Sm} {os : List Op5} {k : Nat} {o : Op5} (h : os[k]? = some o) : putsS S (os.take (k + 1)) = putS (putsS S (os.take k)) o := by
  unfold putsS
  rw [List.take_add_one, h, List.foldl_append]
  rfl
set_option maxHeartbeats 4000000 in
theorem read_ops {B b : Nat} {vr vh vc : Value} {S : Sm} (q : Option Addr) (cap base : Nat) (vs : List Value) (os : List Op5) (w : World) (h : Sq w B b vr vh vc S) (hL : Lis w base (.slice q os.length cap) vs (os.map opB)) (hf : ∀ o ∈ os, Fit5 o)
    (hP : ∀ (k : Nat) (o : Op5), os[k]? = some o → putN (putsS S (os.take k)) o = 0 ∧ (putsS S (os.take k)).nx < 9223372036854775807 ∧ (putsS S (os.take k)).ho.length < 100000) (hl5 : os.length ≤ 100000) :
    Calls Tryz.prog 20 #[sptr b, .slice q os.length cap] w fun e w' => e = .returned (.tuple #[sptr b, .nilIface]) ∧ ∃ vh', Sq w' B b vr vh' vc (putsS S os) ∧ Ms b vc w w' vh vh' := by
  obtain ⟨n, hn⟩ : ∃ n, os.length = n := ⟨_, rfl⟩
  have hbg := begun_ops b q cap vs os w hL.ls hf
  have hcap : n ≤ cap := by
    obtain ⟨q9, cap9, g9, o9, e9, hc9, -⟩ := hL.ls.open
    injection e9 with a1 a2 a3
    rw [List.length_map] at hc9
    omega
  have HN : Hid (os.length = n) := hn
  have hn5 : n ≤ 100000 := by omega
  rw [hn] at hbg hL ⊢
  clear hl5
  have e2 := spn0
  clear hn
  go_enter Tryz.func20, Tryz.ntmps20
  go_upto_region 4 with (go_at_call 43; refine hbg.mono ?_; rintro e W1 ⟨rfl, b1⟩)
  have h1 := h.keep b1
  have hL1 := hL.keep b1
  have HSV : Hid (sliced q 0 n cap 1 = .slice q n cap) := sliced0 _ _ _ _
  clear hbg
  go_wp2_with (refine valS rfl (.slice q n cap) ((slq_l (l := 0) rfl rfl rfl rfl eltBy (sizeBy _) (Nat.zero_le _) hcap).trans (by rw [HSV.out])) ?_)
  go_loopw [27] (fun i wr => ∃ (k : Nat) (vh' : Value), k ≤ n ∧ i = .int .i64 (k : Int) ∧ Sq wr B b vr vh' vc (putsS S (os.take k)) ∧ Ms b vc W1 wr vh vh') (fun i _ => n - (intOf i).toNat)
  case atStart => exact ⟨0, vh, Nat.zero_le _, rfl, h1, Ms.refl _ _ _ _⟩
  case round =>
    obtain ⟨k, vh', hk, rfl, hS, hm⟩ := hrel
    by_cases ck : k = n
    · subst ck
      rw [List.take_of_length_le (Nat.le_of_eq HN.out)] at hS
      go_wp2_with fail
      go_ret2
      exact ⟨rfl, vh', hS, (ms_below vh b1).trans hm⟩
    · obtain ⟨o, ho⟩ : ∃ o, os[k]? = some o := ⟨os[k]'(by have := HN.out; omega), List.getElem?_eq_getElem _⟩
      have hkn : (k : Int) < (n : Int) := by omega
      have hLr := (hL1.frm hm.frm h1.noB).ls
      obtain ⟨q9, cap9, g9, o9, e9, hc9, hm9, hp9, hg9, hr9⟩ := hLr.open
      have hlen9 : (os.map opB).length = n := by rw [List.length_map]; exact HN.out
      obtain ⟨u, hu⟩ : ∃ u, vs[k]? = some u := ⟨vs[k]'(by rw [hLr.len, hlen9]; omega), List.getElem?_eq_getElem _⟩
      have hsl := hLr.each k u (opB o) hu (by rw [List.getElem?_map, ho]; rfl)
      have hq : q = some ⟨g9, o9, none⟩ := by
        have := hp9 (by omega)
        injection e9 with a1 a2 a3
        rw [a1]; exact this
      subst hq
      have c9 : wr.cell? ⟨g9, o9 + k, none⟩ = some u := hr9 k u hu
      have hfo := hf o (List.mem_of_getElem? ho)
      have hrd := readOp_yes u (opB o) o wr hsl (opB_byt o) (by have := opB_len o; omega) (rdO_back hfo)
      obtain ⟨p1, p2, p3⟩ := hP k o ho
      have HSN : Hid (putsS S (os.take (k + 1)) = putS (putsS S (os.take k)) o) := puts_snoc ho
      generalize putsS S (os.take k) = T at *
      obtain ⟨qu, cu, eu, -⟩ := id hsl
      subst eu
      unfold opV opA at hrd
      clear hr9 hp9 hg9 e9 hsl hu hLr hlen9 hP
      go_upto_region 8 with (first
        | (go_at_call 44; refine hrd.mono ?_; rintro e W4 ⟨rfl, b4⟩; obtain ⟨Z4, hE4, hZ4, hz4⟩ := blk1 W4 (opA zOp) 30; unfold opA zOp at hE4; dsimp only at hE4)
        | (refine st_op rfl rfl (k1 := o) hZ4 rfl rfl ?_; intro W5 hX5 C5))
      have hb5 : Below wr.heap.size wr W5 := ab_chg (ab_trans b4 hz4) C5 (Nat.le_trans b4.size (Nat.le_refl _))
      have hS5 := hS.keep hb5
      have hcp := sput_any o W5 hS5 hfo p2 p3
      rw [p1] at hcp
      unfold opV opA at hcp
      rw [show errV 0 = .nilIface from rfl] at hcp
      have u0 : W5.cell? ⟨W4.heap.size, 0, none⟩ = some (.int .i64 o.s) := hX5.at rfl
      have u1 : W5.cell? ⟨W4.heap.size, 1, none⟩ = some (.int .i64 o.k) := hX5.at rfl
      have u2 : W5.cell? ⟨W4.heap.size, 2, none⟩ = some (.int .i64 o.t) := hX5.at rfl
      have u3 : W5.cell? ⟨W4.heap.size, 3, none⟩ = some (.int .i64 o.y) := hX5.at rfl
      have u4 : W5.cell? ⟨W4.heap.size, 4, none⟩ = some (.int .i64 o.v) := hX5.at rfl
      clear hE4 hZ4 hz4 C5 hX5 p1 hrd
      go_wp2_with (go_at_call 34; refine hcp.mono ?_; rintro e W6 ⟨rfl, vh6, h6, m6⟩)
      rw [← HSN.out] at h6
      exact ⟨⟨k + 1, vh6, by omega, by go_num, h6, hm.trans ((ms_below vh' hb5).trans m6)⟩, by simp only [intOf]; omega⟩
end Go.Proofs.YthmolbcnbcajdaaGreat
