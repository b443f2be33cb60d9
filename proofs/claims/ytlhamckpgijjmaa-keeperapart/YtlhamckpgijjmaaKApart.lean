/-
  Keys don't matter for one another: estuarylaw12.KeeperApart returns true for every input; no condition.
-/
import Derived.Test.YtlhamckpgijjmaaPk53
import Derived.Test.YtlhamckpgijjmaaPk43
import Derived.ProofKit
import Derived.OpenShut
import Derived.ChangeOld
import Derived.Below
namespace Go.Proofs.Ytlhamckpgijjmaa.keeperApart
open Go.ChangeShapes Go.WideShapes Go.ChangeAt Go.RowKit Go.Joins
set_option linter.unusedVariables false

theorem mod_nat12 (x : Int) (n : Int) (h0 : 0 < n) (h1 : n ≤ 4096) : ∃ k : Nat, (k : Int) < n ∧ wrap64 ((IntKind.u64.wrap x).tmod n) = (k : Int) := by
  have hx : 0 ≤ IntKind.u64.wrap x := by rw [IntKind.wrap_u64]; omega
  have he : (IntKind.u64.wrap x).tmod n = IntKind.u64.wrap x % n := Int.tmod_eq_emod_of_nonneg hx
  have h2 := Int.emod_nonneg (IntKind.u64.wrap x) (show n ≠ 0 by omega)
  have h3 := Int.emod_lt_of_pos (IntKind.u64.wrap x) h0
  refine ⟨(IntKind.u64.wrap x % n).toNat, by omega, ?_⟩
  rw [he, Int.toNat_of_nonneg h2]
  generalize IntKind.u64.wrap x % n = r at *
  unfold wrap64
  omega
/-- A keeper behind j notes, whose register at key is r. -/
structure KS (W : World) (base b d kb j key : Nat) (v : Value) (r : Rg) : Prop where
  ex : ∃ (l : List Nat) (s n nr nb : Nat) (os : List KD) (x : KD), Kp W base b v d kb (up l s n) nr nb 1 os ∧ (nr ≤ j ∧ nb ≤ 1000 * j ∧ l.length ≤ 1000 * j ∧ n ≤ 2 * j) ∧ (∀ x ∈ os, RgS (rgK x)) ∧ os[key]? = some x ∧ rgK x = r
theorem KS.keep {W W' : World} {base b d kb j key : Nat} {v : Value} {r : Rg} (h : KS W base b d kb j key v r) (hb : Below W.heap.size W W') : KS W' base b d kb j key v r := by
  obtain ⟨l, s, n, nr, nb, os, x, h1, h2⟩ := h.ex
  exact ⟨l, s, n, nr, nb, os, x, h1.keep hb, h2⟩
theorem KS.more {W : World} {base b d kb j key : Nat} {v : Value} {r : Rg} (h : KS W base b d kb j key v r) : KS W base b d kb (j + 1) key v r := by
  obtain ⟨l, s, n, nr, nb, os, x, h1, h2, h3⟩ := h.ex
  exact ⟨l, s, n, nr, nb, os, x, h1, by omega, h3⟩
theorem KS.le {W : World} {base b d kb j key : Nat} {v : Value} {r : Rg} (h : KS W base b d kb j key v r) : base ≤ W.heap.size := by
  obtain ⟨l, s, n, nr, nb, os, x, h1, h2, h3⟩ := h.ex
  have := h1.ages
  omega
theorem Kp.chgN {W W' : World} {base b : Nat} {v : Value} {d kb : Nat} {S : TS} {nr nb : Nat} {node : Int} {os : List KD} {g : Nat} {xs : Array Value} (h : Kp W base b v d kb S nr nb node os) (c : Chg g W W') (hX : Blk W g xs 35) : Kp W' base b v d kb S nr nb node os :=
  ⟨⟨h.tp.ge, h.tp.blk.chg c (blk_ne h.tp.blk hX (by decide)), own_chgT h.tp.own c (blk_own h.tp.own hX (by decide)), h.tp.sure, h.tp.max, h.tp.bo, h.tp.br⟩, h.dy.chg c (blk_ne h.dy hX (by decide)), h.kp.chg c (blk_ne h.kp hX (by decide)), h.len, fun r hr => own_chgT (h.im r hr) c (blk_own (h.im r hr) hX (by decide)), h.gd, h.gk⟩
theorem KS.chgN {W W' : World} {base b d kb j key : Nat} {v : Value} {r : Rg} {g : Nat} {xs : Array Value} (h : KS W base b d kb j key v r) (c : Chg g W W') (hX : Blk W g xs 35) : KS W' base b d kb j key v r := by
  obtain ⟨l, s, n, nr, nb, os, x, h1, h2⟩ := h.ex
  exact ⟨l, s, n, nr, nb, os, x, Kp.chgN h1 c hX, h2⟩
theorem out_short {N : Nt} {r r' : Rg} {o : Option (Int × List Int)} (h : Out N r o r') (hn : N.ns.length < 4) : r' = r := by
  rcases h with ⟨a, b, c⟩ | ⟨a, a', b, c⟩ | ⟨a, a', b, c⟩ | ⟨a, a', b, c⟩
  · exact c
  · exact c
  · exact c
  · have := (ask_short a).2; omega
/-- Numbers and notes that stay while a keeper is at work. -/
def StayK (w w' : World) (base : Nat) : Prop := (∀ g xs, Blk w g xs 35 → Blk w' g xs 35) ∧ (∀ v l, Io w base v l → Io w' base v l) ∧ Below base w w'
theorem stayK {W W' : World} {base b : Nat} {v v' : Value} {d kb : Nat} {S : TS} {nr nb : Nat} {node : Int} {os : List KD} (m : Km b d kb W W' v v') (hK : Kp W base b v d kb S nr nb node os) : StayK W W' base :=
  ⟨fun g xs h => h.km m hK (by decide) (by decide) (by decide) (by decide), fun x l h => own_at h fun g hg => m.other g (h.lt g hg).2 (fun e => blk_own h hK.tp.blk (by decide) (by rw [← e]; exact hg)) (fun e => blk_own h hK.dy (by decide) (by rw [← e]; exact hg)) (fun e => blk_own h hK.kp (by decide) (by rw [← e]; exact hg)) (fun e => sep_ty h hK.tp.own (by decide) g hg e), m.below' hK⟩
/-- Handle of a note on one of two keepers. -/
theorem ks_handle {base ba da ka bb db kb ja jb key : Nat} {va vb : Value} {ra rb : Rg} {w : World} (hA : KS w base ba da ka ja key va ra) (hB : KS w base bb db kb jb key vb rb) (ht : Two ba da ka va bb db kb vb) (hj : ja ≤ 150) (N : Nt) (vn vo ve : Value) (hik : Ik w base vn N.ns) (h2 : SR 5 k64 w vo N.os) (h3 : SR 76 ek w ve N.es) (h1 : N.t = 1) (hN : In64 N.ns) :
    Calls Try.prog 12 #[tptr ka, ntV N vn vo ve] w fun e w' => ∃ va' ra' o, KS w' base ba da ka (ja + 1) key va' ra' ∧ KS w' base bb db kb jb key vb rb ∧ Two ba da ka va' bb db kb vb ∧ StayK w w' base ∧ (N.ns.getD 0 0 ≠ (key : Int) → ra' = ra) ∧ (N.ns.getD 0 0 = (key : Int) → Out N ra o ra') ∧ AnsP w' w.heap.size N o e := by
  obtain ⟨l, s, n, nr, nb, os, x, hKA, hbd, hrg, hx, hr⟩ := hA.ex
  obtain ⟨l2, s2, n2, nr2, nb2, os2, x2, hKB, hbd2, hrg2, hx2, hr2⟩ := hB.ex
  refine (khandle_few base ba va da ka l s n nr nb 1 os N vn vo ve w hKA (by omega) (by omega) (by omega) (by omega) hik h2 h3 h1 hN hrg).mono ?_
  rintro e w' ⟨v', l', s', n', nr', nb', os', o, hf, hans⟩
  obtain ⟨x', hx', g1, g2⟩ := hf.gets key x hx
  obtain ⟨hKB', ht'⟩ := hKA.other hKB hf.km ht
  have hb3 := hf.bd
  refine ⟨v', rgK x', o, ⟨l', s', n', nr', nb', os', x', hf.kp, by omega, hf.rg, hx', rfl⟩, ⟨l2, s2, n2, nr2, nb2, os2, x2, hKB', hbd2, hrg2, hx2, hr2⟩, ht', stayK hf.km hKA, fun h => (g1 h).trans hr, fun h => by rw [← hr]; exact g2 h, hans⟩
theorem ks_reg {base b d kb j key : Nat} {v : Value} {r : Rg} {w : World} (h : KS w base b d kb j key v r) (hk : key < 100) : Calls Try.prog 11 #[tptr kb, .int .i64 (key : Int)] w fun e w' => RegE w' w.heap.size r e ∧ r.l.length ≤ 32 ∧ Below w.heap.size w w' := by
  obtain ⟨l, s, n, nr, nb, os, x, hK, hbd, hrg, hx, hr⟩ := h.ex
  have hm := List.mem_of_getElem? hx
  have h9 := (hrg x hm).2
  refine (kregister_any kb d key 1 os x w hK.kp hx hk (hK.im x hm).is (Nat.le_trans h9 (by omega))).mono ?_
  rintro e w' ⟨he, hb⟩
  rw [hr] at he
  exact ⟨he, by rw [← hr]; exact h9, hb⟩
theorem ks_new {base b d kb key : Nat} {v : Value} {w : World} (h : Kp w base b v d kb (up [] 0 0) 0 0 1 (List.replicate 100 zK)) (hk : key < 100) : KS w base b d kb 0 key v (rgK zK) := by
  refine ⟨[], 0, 0, 0, 0, _, zK, h, by simp, fun x hx => ?_, by rw [List.getElem?_replicate, if_pos hk], rfl⟩
  rw [List.eq_of_mem_replicate hx]
  exact ⟨in64_small (by decide), by decide⟩
set_option maxRecDepth 100000 in
set_option maxHeartbeats 8000000 in
theorem apart_walk (q : Option Addr) (m cap g off : Nat) (os : List NtD) (ky : Int) (w : World) (hs : NtRow w q m cap g off os) :
    Calls Try.prog 6 #[.slice q m cap, .int .i64 ky] w fun e w' => e = .returned (.bool true) ∧ Below w.heap.size w w' := by
  go_enter Try.func6, Try.ntmps6
  go_wp2_with fail
  refine (alive12_any _).mono ?_
  rintro e W1 ⟨rfl, b1⟩
  by_cases cm : m ≤ 150
  rotate_left
  · have cm2 : (150 : Int) < (m : Int) := by omega
    go_wp2_with fail
    go_ret
    exact ⟨rfl, b1⟩
  have cm2 : ¬ (150 : Int) < (m : Int) := by omega
  go_upto_region 5 with fail
  clear cm2
  go_upto_region 6 with fail
  obtain ⟨key, hk4, hke⟩ := mod_nat12 ky 4 (by omega) (by omega)
  rw [hke]
  have hk100 : key < 100 := by omega
  clear hke
  go_wp2_with fail
  refine (new_any _).mono ?_
  rintro e W2 ⟨rfl, h2, b2⟩
  go_wp2_with fail
  refine (kopen_new _ _ _ 0 0 1 _ h2 (by omega) (by omega) (by omega)).mono ?_
  rintro e W3 ⟨da, ka, va, rfl, hK3, hda, hka, m3⟩
  have hb3 : Below W1.heap.size W1 W3 := b2.trans (h2.below m3)
  clear h2 b2 m3
  go_wp2_with fail
  refine (new_any _).mono ?_
  rintro e W4 ⟨rfl, h4, b4⟩
  go_wp2_with fail
  refine (kopen_new _ _ _ 0 0 1 _ (h4.less hb3.size) (by omega) (by omega) (by omega)).mono ?_
  rintro e W5 ⟨db, kb, vb, rfl, hK5, hdb, hkb, m5⟩
  have b35 : Below W3.heap.size W3 W5 := b4.trans (h4.below m5)
  have hag := hK3.ages
  have hT5 : Two W1.heap.size da ka va W3.heap.size db kb vb := ⟨by omega, by have := b4.size; omega, by have := b4.size; omega, fun x hx e => by
    have h9 := (hag.2.2.2.2.2.2 x hx).2
    rcases m5.next x e with h | h
    · cases h
    · have := b4.size; omega⟩
  have hA5 := ks_new (key := key) (hK3.keep b35) hk100
  have hB5 := ks_new (key := key) hK5 hk100
  have hb5 := ab_trans b1 (ab_trans hb3 b35)
  have hs1 := b1.size
  have E1 := ne00
  clear hK3 hK5 hag m5 h4 b4 b35 hb3 hda hka hdb hkb
  go_wp2_with fail
  clear E1
  go_loopw [40] (fun i wr => ∃ (j : Nat) (va vb : Value) (r : Rg), j ≤ m ∧ i = .int .i64 (j : Int) ∧ KS wr W1.heap.size W1.heap.size da ka j key va r ∧ KS wr W1.heap.size W3.heap.size db kb j key vb r ∧ Two W1.heap.size da ka va W3.heap.size db kb vb ∧ Below w.heap.size w wr) (fun i _ => m - (intOf i).toNat)
  case atStart => exact ⟨0, va, vb, _, by omega, rfl, hA5, hB5, hT5, hb5⟩
  case round =>
    clear hA5 hB5 hT5 hb5
    obtain ⟨j, va, vb, r, hj, rfl, hA, hB, hT, hb⟩ := hrel
    by_cases cj : j = m
    · subst cj
      clear hs
      go_wp2_with fail
      refine (ks_reg hA hk100).mono ?_
      rintro e V1 ⟨⟨q1, n1, c1, rfl, hO1, hn1⟩, hl, v1⟩
      go_wp2_with fail
      refine (ks_reg (hB.keep v1) hk100).mono ?_
      rintro e V2 ⟨⟨q2, n2, c2, rfl, hO2, hn2⟩, -, v2⟩
      go_wp2_with fail
      refine (same9_any r r _ _ _ (hO1.keep v2).is hO2.is (by omega)).mono ?_
      rintro e V3 ⟨rfl, v3⟩
      rw [smR_self]
      go_wp2_with fail
      go_ret
      exact ⟨rfl, ab_trans hb (ab_trans v1 (ab_trans v2 v3))⟩
    have hjm : j < m := by omega
    have hji : (j : Int) < (m : Int) := by omega
    obtain ⟨⟨⟨k, f, t, ns, xs, es⟩, vn, vo, ve⟩, hy⟩ : ∃ y, os[j]? = some y := ⟨os[j]'(by have := hs.len; omega), List.getElem?_eq_getElem _⟩
    obtain ⟨d0, d1, d2, d3, d4, d5, hns, hxs, hes, h64⟩ := hs.row j _ hy
    obtain rfl := hs.ptr (by omega)
    have hg := hs.lt (by omega)
    have hfit := hs.fits
    dsimp only at d0 d1 d2 d3 d4 d5 hns hxs hes h64
    have d0 := keep_cell hb d0 hg
    have d1 := keep_cell hb d1 hg
    have d2 := keep_cell hb d2 hg
    have d3 := keep_cell hb d3 hg
    have d4 := keep_cell hb d4 hg
    have d5 := keep_cell hb d5 hg
    obtain ⟨q1, c1, e⟩ := hns.form
    subst e
    obtain ⟨q2, c2, e2⟩ : ∃ q c, vo = .slice q xs.length c := by obtain ⟨q, c, g9, o9, h9, -⟩ := hxs; exact ⟨q, c, h9⟩
    subst e2
    obtain ⟨q3, c3, e3⟩ : ∃ q c, ve = .slice q es.length c := by obtain ⟨q, c, g9, o9, h9, -⟩ := hes; exact ⟨q, c, h9⟩
    subst e3
    obtain ⟨n1, hn1⟩ : ∃ n, ns.length = n := ⟨_, rfl⟩
    obtain ⟨n2, hn2⟩ : ∃ n, xs.length = n := ⟨_, rfl⟩
    obtain ⟨n3, hn3⟩ : ∃ n, es.length = n := ⟨_, rfl⟩
    rw [hn1] at hns d3
    rw [hn2] at hxs d4
    rw [hn3] at hes d5
    clear hs hy hg
    obtain ⟨A, hAe, hX, vA⟩ := blk1 wr (ntC k f t (.slice q1 n1 c1) (.slice q2 n2 c2) (.slice q3 n3 c3)) 35
    go_upto_region 13 with fail
    clear hAe d0 d1 d2 d3 d4 d5
    have hAA := hA.keep vA
    have hBA := hB.keep vA
    have hbA := ab_trans hb vA
    have a3 : A.cell? ⟨wr.heap.size, 3, none⟩ = some (.slice q1 n1 c1) := hX.at rfl
    have a2 : A.cell? ⟨wr.heap.size, 2, none⟩ = some (.int .i64 t) := hX.at rfl
    have hgX : W1.heap.size ≤ wr.heap.size := hA.le
    clear hA hB hb vA
    by_cases c100 : n1 ≤ 100
    rotate_left
    · have c101 : (100 : Int) < (n1 : Int) := by omega
      go_wp2_with fail
      go_ret
      exact ⟨rfl, hbA⟩
    have c101 : ¬ (100 : Int) < (n1 : Int) := by omega
    have f2 := hX.frozen 2
    have hltX := hX.lt
    go_upto_region 16 with fail
    clear c101 a3 a2 f2
    have C2 := chg_set A wr.heap.size 2 (.int .i64 1)
    have hX2 : Blk (A.setCell ⟨wr.heap.size, 2, none⟩ (.int .i64 1)) wr.heap.size (ntC k f 1 (.slice q1 n1 c1) (.slice q2 n2 c2) (.slice q3 n3 c3)) 35 := hX.set 2 _
    have hA2 := hAA.chgN C2 hX
    have hB2 := hBA.chgN C2 hX
    have hb2 : Below w.heap.size w (A.setCell ⟨wr.heap.size, 2, none⟩ (.int .i64 1)) := hbA.trans (C2.below (by omega))
    generalize A.setCell ⟨wr.heap.size, 2, none⟩ (.int .i64 1) = B at C2 hX2 hA2 hB2 hb2 ⊢
    clear C2 hX hAA hBA hbA hltX
    go_wp2_with (refine ld_blk rfl rfl hX2 rfl _ Try.underlying35 rfl (by kernel_rfl) ?_)
    refine (ks_handle hA2 hB2 hT (by omega) ⟨k, f, 1, ns, xs, es⟩ _ _ _ (.inr ⟨w, hs1, hb2, hns⟩) (hxs.keep hb2) (hes.keep hb2) rfl h64).mono ?_
    rintro e V1 ⟨va', ra', o, hA3, hB3, hT3, hst, hne, heq, hans⟩
    have hX3 := hst.1 _ _ hX2
    have hb3 : Below w.heap.size w V1 := hb2.trans (hst.2.2.mono hs1)
    have a3 : V1.cell? ⟨wr.heap.size, 3, none⟩ = some (.slice q1 n1 c1) := hX3.at rfl
    have hcan : (n1 = 0 ∨ ns.getD 0 0 ≠ (key : Int)) → ra' = r := fun h => by
      by_cases h9 : ns.getD 0 0 = (key : Int)
      · refine out_short (heq h9) ?_
        show ns.length < 4
        rcases h with h | h
        · omega
        · exact absurd h9 h
      · exact hne h9
    rcases o with _ | ⟨k9, l9⟩
    · obtain rfl := hans.1 rfl
      clear hans
      by_cases z1 : n1 = 0
      · have HC := hcan (.inl z1)
        have z2 : ((n1 : Int) == 0) = true := by simp [z1]
        clear z1
        go_wp2_with fail
        subst HC
        exact ⟨⟨j + 1, va', vb, ra', by omega, rfl, hA3, hB3.more, hT3, hb3⟩, by simp only [intOf]; omega⟩
      obtain ⟨x0, rest, hx0⟩ : ∃ x0 rest, ns = x0 :: rest := by
        cases ns with
        | nil => exact absurd hn1.symm z1
        | cons a b => exact ⟨a, b, rfl⟩
      have hgd : ns.getD 0 0 = x0 := by rw [hx0]; rfl
      obtain ⟨gn, on, eqn, hgn, hrn⟩ := hns.at (by omega)
      subst eqn
      have z2 : ((n1 : Int) == 0) = false := by rw [beq_eq_false_iff_ne]; omega
      have z3 : (0 : Int) < (n1 : Int) := by omega
      have z4 : 0 < n1 := by omega
      have c0 : V1.cell? ⟨gn, on, none⟩ = some (.int .i64 x0) := keep_cell hb3 (hrn 0 x0 (by rw [hx0]; rfl)) hgn
      by_cases z5 : x0 = (key : Int)
      rotate_left
      · have HC := hcan (.inr (by rw [hgd]; exact z5))
        have z6 : (x0 != (key : Int)) = true := by simp [z5]
        clear z5 hcan hgd hx0
        go_wp2_with fail
        subst HC
        exact ⟨⟨j + 1, va', vb, ra', by omega, rfl, hA3, hB3.more, hT3, hb3⟩, by simp only [intOf]; omega⟩
      have hkk : ns.getD 0 0 = (key : Int) := hgd.trans z5
      have z6 : (x0 != (key : Int)) = false := by simp [z5]
      have hOut := heq hkk
      clear z5 hcan hgd hx0 heq hne
      go_upto_region 18 with fail
      clear z2 z3 z4 z6 c0 a3
      go_wp2_with (refine ld_blk rfl rfl hX3 rfl _ Try.underlying35 rfl (by kernel_rfl) ?_)
      refine (ks_handle hB3 hA3 hT3.swap (by omega) ⟨k, f, 1, ns, xs, es⟩ _ _ _ (.inr ⟨w, hs1, hb3, hns⟩) (hxs.keep hb3) (hes.keep hb3) rfl h64).mono ?_
      rintro e V2 ⟨vb', rb', o2, hB4, hA4, hT4, hst2, -, heq2, hans2⟩
      obtain ⟨ho, hr9⟩ := hOut.uniq (heq2 hkk)
      subst ho
      subst hr9
      have hb4 : Below w.heap.size w V2 := hb3.trans (hst2.2.2.mono hs1)
      clear heq2 hOut hst hkk
      obtain rfl := hans2.1 rfl
      clear hans2 hst2
      go_upto_region 19 with fail
      refine wp_region_held_drew (S := fun w' => Below V2.heap.size V2 w') (by kernel_rfl) (ab_drew (Below.refl _ _)) (fun hHeld => ?_)
      refine takeH (i := 0) (some 67) rfl rfl (by kernel_rfl) (by kernel_rfl) (by kernel_rfl) (fun _ _ _ h => h) (by rfl) (fun w hSw => by (try dsimp only at hSw); go_simp; try rfl) hHeld ?_
      go_frame
      refine takeH (i := 1) (some 68) rfl rfl (by kernel_rfl) (by kernel_rfl) (by kernel_rfl) (fun _ _ _ h => h) (by rfl) (fun w hSw => by (try dsimp only at hSw); go_simp; try rfl) hHeld ?_
      go_frame
      refine takeH (i := 2) (some 69) rfl rfl (by kernel_rfl) (by kernel_rfl) (by kernel_rfl) (fun _ _ _ h => h) (by rfl) (fun w hSw => by (try dsimp only at hSw); go_simp; try rfl) hHeld ?_
      go_frame
      refine takeH (i := 3) (some 70) rfl rfl (by kernel_rfl) (by kernel_rfl) (by kernel_rfl) (fun _ _ _ h => h) (by rfl) (fun w hSw => by (try dsimp only at hSw); go_simp; try rfl) hHeld ?_
      go_frame
      refine takeH (i := 4) (some 71) rfl rfl (by kernel_rfl) (by kernel_rfl) (by kernel_rfl) (fun _ _ _ h => h) (by rfl) (fun w hSw => by (try dsimp only at hSw); go_simp; try rfl) hHeld ?_
      go_frame
      refine takeH (i := 5) (some 72) rfl rfl (by kernel_rfl) (by kernel_rfl) (by kernel_rfl) (fun _ _ _ h => h) (by rfl) (fun w hSw => by (try dsimp only at hSw); go_simp; try rfl) hHeld ?_
      go_frame
      refine takeH (i := 6) (some 73) rfl rfl (by kernel_rfl) (by kernel_rfl) (by kernel_rfl) (fun _ _ _ h => h) (by rfl) (fun w hSw => by (try dsimp only at hSw); go_simp; try rfl) hHeld ?_
      go_frame
      refine takeH (i := 7) (some 74) rfl rfl (by kernel_rfl) (by kernel_rfl) (by kernel_rfl) (fun _ _ _ h => h) (by rfl) (fun w hSw => by (try dsimp only at hSw); go_simp; try rfl) hHeld ?_
      go_frame
      refine takeH (i := 8) (some 75) rfl rfl (by kernel_rfl) (by kernel_rfl) (by kernel_rfl) (fun _ _ _ h => h) (by rfl) (fun w hSw => by (try dsimp only at hSw); go_simp; try rfl) hHeld ?_
      go_frame
      refine takeH (i := 9) (some 76) rfl rfl (by kernel_rfl) (by kernel_rfl) (by kernel_rfl) (fun _ _ _ h => h) (by rfl) (fun w hSw => by (try dsimp only at hSw); go_simp; try rfl) hHeld ?_
      go_frame
      refine skipH (i := 10) (some 77) rfl rfl (by kernel_rfl) (by kernel_rfl) (by kernel_rfl) (fun _ _ _ h => h) (by rfl) hHeld ?_
      go_frame
      refine skipH (i := 11) (some 78) rfl rfl (by kernel_rfl) (by kernel_rfl) (by kernel_rfl) (fun _ _ _ h => h) (by rfl) hHeld ?_
      go_frame
      refine skipH (i := 12) (some 79) rfl rfl (by kernel_rfl) (by kernel_rfl) (by kernel_rfl) (fun _ _ _ h => h) (by rfl) hHeld ?_
      go_frame
      refine skipH (i := 13) (some 80) rfl rfl (by kernel_rfl) (by kernel_rfl) (by kernel_rfl) (fun _ _ _ h => h) (by rfl) hHeld ?_
      go_frame
      refine skipH (i := 14) (some 81) rfl rfl (by kernel_rfl) (by kernel_rfl) (by kernel_rfl) (fun _ _ _ h => h) (by rfl) hHeld ?_
      go_frame
      refine skipH (i := 15) (some 82) rfl rfl (by kernel_rfl) (by kernel_rfl) (by kernel_rfl) (fun _ _ _ h => h) (by rfl) hHeld ?_
      go_frame
      refine skipH (i := 16) (some 83) rfl rfl (by kernel_rfl) (by kernel_rfl) (by kernel_rfl) (fun _ _ _ h => h) (by rfl) hHeld ?_
      go_frame
      refine skipH (i := 17) (some 84) rfl rfl (by kernel_rfl) (by kernel_rfl) (by kernel_rfl) (fun _ _ _ h => h) (by rfl) hHeld ?_
      go_frame
      refine takeH (i := 18) (some 85) rfl rfl (by kernel_rfl) (by kernel_rfl) (by kernel_rfl) (fun _ _ _ h => h) (by rfl) (fun w hSw => by (try dsimp only at hSw); go_simp; try rfl) hHeld ?_
      go_frame
      refine takeH (i := 19) (some 86) rfl rfl (by kernel_rfl) (by kernel_rfl) (by kernel_rfl) (fun _ _ _ h => h) (by rfl) (fun w hSw => by (try dsimp only at hSw); go_simp; try rfl) hHeld ?_
      go_frame
      refine wpAnyH_done (by kernel_rfl) ?_ _
      go_wp2_with fail
      exact ⟨⟨j + 1, va', vb', ra', by omega, rfl, hA4.keep hHeld, hB4.keep hHeld, hT4.swap, ab_trans hb4 hHeld⟩, by simp only [intOf]; omega⟩
    · obtain ⟨g9, q9, n9, c9, rfl, hge9, hN9, hI9, hn9⟩ := hans.2 k9 l9 rfl
      clear hans
      by_cases z1 : n1 = 0
      · have HC := hcan (.inl z1)
        have z2 : ((n1 : Int) == 0) = true := by simp [z1]
        clear z1
        go_wp2_with fail
        subst HC
        exact ⟨⟨j + 1, va', vb, ra', by omega, rfl, hA3, hB3.more, hT3, hb3⟩, by simp only [intOf]; omega⟩
      obtain ⟨x0, rest, hx0⟩ : ∃ x0 rest, ns = x0 :: rest := by
        cases ns with
        | nil => exact absurd hn1.symm z1
        | cons a b => exact ⟨a, b, rfl⟩
      have hgd : ns.getD 0 0 = x0 := by rw [hx0]; rfl
      obtain ⟨gn, on, eqn, hgn, hrn⟩ := hns.at (by omega)
      subst eqn
      have z2 : ((n1 : Int) == 0) = false := by rw [beq_eq_false_iff_ne]; omega
      have z3 : (0 : Int) < (n1 : Int) := by omega
      have z4 : 0 < n1 := by omega
      have c0 : V1.cell? ⟨gn, on, none⟩ = some (.int .i64 x0) := keep_cell hb3 (hrn 0 x0 (by rw [hx0]; rfl)) hgn
      by_cases z5 : x0 = (key : Int)
      rotate_left
      · have HC := hcan (.inr (by rw [hgd]; exact z5))
        have z6 : (x0 != (key : Int)) = true := by simp [z5]
        clear z5 hcan hgd hx0
        go_wp2_with fail
        subst HC
        exact ⟨⟨j + 1, va', vb, ra', by omega, rfl, hA3, hB3.more, hT3, hb3⟩, by simp only [intOf]; omega⟩
      have hkk : ns.getD 0 0 = (key : Int) := hgd.trans z5
      have z6 : (x0 != (key : Int)) = false := by simp [z5]
      have hOut := heq hkk
      clear z5 hcan hgd hx0 heq hne
      go_upto_region 18 with fail
      clear z2 z3 z4 z6 c0 a3
      go_wp2_with (refine ld_blk rfl rfl hX3 rfl _ Try.underlying35 rfl (by kernel_rfl) ?_)
      refine (ks_handle hB3 hA3 hT3.swap (by omega) ⟨k, f, 1, ns, xs, es⟩ _ _ _ (.inr ⟨w, hs1, hb3, hns⟩) (hxs.keep hb3) (hes.keep hb3) rfl h64).mono ?_
      rintro e V2 ⟨vb', rb', o2, hB4, hA4, hT4, hst2, -, heq2, hans2⟩
      obtain ⟨ho, hr9⟩ := hOut.uniq (heq2 hkk)
      subst ho
      subst hr9
      have hb4 : Below w.heap.size w V2 := hb3.trans (hst2.2.2.mono hs1)
      clear heq2 hOut hst hkk
      obtain ⟨g8, q8, n8, c8, rfl, hge8, hN8, hI8, hn8⟩ := hans2.2 k9 l9 rfl
      have hN7 := hst2.1 _ _ hN9
      have hI7 := hst2.2.1 _ _ (hI9.less hA2.le)
      clear hans2 hst2 hN9 hI9
      go_upto_region 19 with fail
      have y0 : ∀ V, Below V2.heap.size V2 V → Blk V g9 (ntC k9 1 f (.slice q9 n9 c9) (.slice none 0 0) (.slice none 0 0)) 35 := fun V hV => hN7.keep hV
      have y1 : ∀ V, Below V2.heap.size V2 V → Blk V g8 (ntC k9 1 f (.slice q8 n8 c8) (.slice none 0 0) (.slice none 0 0)) 35 := fun V hV => hN8.keep hV
      refine wp_region_held_drew (S := fun w' => Below V2.heap.size V2 w') (by kernel_rfl) (ab_drew (Below.refl _ _)) (fun hHeld => ?_)
      refine takeH (i := 0) (some 67) rfl rfl (by kernel_rfl) (by kernel_rfl) (by kernel_rfl) (fun _ _ _ h => h) (by rfl) (fun w hSw => by (try dsimp only at hSw); go_simp; try rfl) hHeld ?_
      go_frame
      refine takeH (i := 1) (some 68) rfl rfl (by kernel_rfl) (by kernel_rfl) (by kernel_rfl) (fun _ _ _ h => h) (by rfl) (fun w hSw => by (try dsimp only at hSw); go_simp; try rfl) hHeld ?_
      go_frame
      refine takeH (i := 2) (some 69) rfl rfl (by kernel_rfl) (by kernel_rfl) (by kernel_rfl) (fun _ _ _ h => h) (by rfl) (fun w hSw => by (try dsimp only at hSw); go_simp; try rfl) hHeld ?_
      go_frame
      refine takeH (i := 3) (some 70) rfl rfl (by kernel_rfl) (by kernel_rfl) (by kernel_rfl) (fun _ _ _ h => h) (by rfl) (fun w hSw => by (try dsimp only at hSw); go_simp; try rfl) hHeld ?_
      go_frame
      refine takeH (i := 4) (some 71) rfl rfl (by kernel_rfl) (by kernel_rfl) (by kernel_rfl) (fun _ _ _ h => h) (by rfl) (fun w hSw => by (try dsimp only at hSw); go_simp; try rfl) hHeld ?_
      go_frame
      refine takeH (i := 5) (some 72) rfl rfl (by kernel_rfl) (by kernel_rfl) (by kernel_rfl) (fun _ _ _ h => h) (by rfl) (fun w hSw => by (try dsimp only at hSw); go_simp; try rfl) hHeld ?_
      go_frame
      refine takeH (i := 6) (some 73) rfl rfl (by kernel_rfl) (by kernel_rfl) (by kernel_rfl) (fun _ _ _ h => h) (by rfl) (fun w hSw => by (try dsimp only at hSw); go_simp; try rfl) hHeld ?_
      go_frame
      refine takeH (i := 7) (some 74) rfl rfl (by kernel_rfl) (by kernel_rfl) (by kernel_rfl) (fun _ _ _ h => h) (by rfl) (fun w hSw => by (try dsimp only at hSw); go_simp; try rfl) hHeld ?_
      go_frame
      refine takeH (i := 8) (some 75) rfl rfl (by kernel_rfl) (by kernel_rfl) (by kernel_rfl) (fun _ _ _ h => h) (by rfl) (fun w hSw => by (try dsimp only at hSw); go_simp; try rfl) hHeld ?_
      go_frame
      refine takeH (i := 9) (some 76) rfl rfl (by kernel_rfl) (by kernel_rfl) (by kernel_rfl) (fun _ _ _ h => h) (by rfl) (fun w hSw => by (try dsimp only at hSw); go_simp; try rfl) hHeld ?_
      go_frame
      refine takeH (i := 10) (some 77) rfl rfl (by kernel_rfl) (by kernel_rfl) (by kernel_rfl) (fun _ _ _ h => h) (by rfl) (fun w hSw => by (try dsimp only at hSw); go_simp; try rfl) hHeld ?_
      go_frame
      refine takeH (i := 11) (some 78) rfl rfl (by kernel_rfl) (by kernel_rfl) (by kernel_rfl) (fun _ _ _ h => h) (by rfl) (fun w hSw => by (try dsimp only at hSw); go_simp; try rfl) hHeld ?_
      go_frame
      refine takeH (i := 12) (some 79) rfl rfl (by kernel_rfl) (by kernel_rfl) (by kernel_rfl) (fun _ _ _ h => h) (by rfl) (fun w hSw => by (try dsimp only at hSw); have hh := y0 _ hSw; have h0 := hh.at (i := 0) rfl; have h1 := hh.at (i := 1) rfl; have h2 := hh.at (i := 2) rfl; have h3 := hh.at (i := 3) rfl; have h4 := hh.at (i := 4) rfl; have h5 := hh.at (i := 5) rfl; go_simp; try rfl) hHeld ?_
      go_frame
      refine takeH (i := 13) (some 80) rfl rfl (by kernel_rfl) (by kernel_rfl) (by kernel_rfl) (fun _ _ _ h => h) (by rfl) (fun w hSw => by (try dsimp only at hSw); go_simp; try rfl) hHeld ?_
      go_frame
      refine takeH (i := 14) (some 81) rfl rfl (by kernel_rfl) (by kernel_rfl) (by kernel_rfl) (fun _ _ _ h => h) (by rfl) (fun w hSw => by (try dsimp only at hSw); go_simp; try rfl) hHeld ?_
      go_frame
      refine takeH (i := 15) (some 82) rfl rfl (by kernel_rfl) (by kernel_rfl) (by kernel_rfl) (fun _ _ _ h => h) (by rfl) (fun w hSw => by (try dsimp only at hSw); have hh := y1 _ hSw; have h0 := hh.at (i := 0) rfl; have h1 := hh.at (i := 1) rfl; have h2 := hh.at (i := 2) rfl; have h3 := hh.at (i := 3) rfl; have h4 := hh.at (i := 4) rfl; have h5 := hh.at (i := 5) rfl; go_simp; try rfl) hHeld ?_
      go_frame
      refine wpAnyH_ready (rs := [16]) (by kernel_rfl) (by simp) (AllReadyH.cons rfl (fun K hK => ?_) AllReadyH.nil)
      go_simp
      refine (rsame_any ⟨k9, 1, f, l9, [], []⟩ ⟨k9, 1, f, l9, [], []⟩ _ _ _ _ _ _ _ (hI7.is.keep hHeld) (SR.nil _ _ _) (SR.nil _ _ _) (hI8.is.keep hHeld) (SR.nil _ _ _) (SR.nil _ _ _)).mono ?_
      rintro e V3 ⟨⟨z, rfl, hz⟩, v3⟩
      have hz1 : z = true := hz.2 (SameN.refl _)
      subst hz1
      show K _ _
      refine hK.out _ _ (ab_trans hHeld v3) (fun hHeld => ?_)
      clear hK K
      refine takeH (i := 17) (some 84) rfl rfl (by kernel_rfl) (by kernel_rfl) (by kernel_rfl) (fun _ _ _ h => h) (by rfl) (fun w hSw => by (try dsimp only at hSw); go_simp; try rfl) hHeld ?_
      go_frame
      refine takeH (i := 18) (some 85) rfl rfl (by kernel_rfl) (by kernel_rfl) (by kernel_rfl) (fun _ _ _ h => h) (by rfl) (fun w hSw => by (try dsimp only at hSw); go_simp; try rfl) hHeld ?_
      go_frame
      refine takeH (i := 19) (some 86) rfl rfl (by kernel_rfl) (by kernel_rfl) (by kernel_rfl) (fun _ _ _ h => h) (by rfl) (fun w hSw => by (try dsimp only at hSw); go_simp; try rfl) hHeld ?_
      go_frame
      refine wpAnyH_done (by kernel_rfl) ?_ _
      go_wp2_with fail
      exact ⟨⟨j + 1, va', vb', ra', by omega, rfl, hA4.keep hHeld, hB4.keep hHeld, hT4.swap, ab_trans hb4 hHeld⟩, by simp only [intOf]; omega⟩
theorem walk {W : World} (q : Option Addr) (m cap g off : Nat) (os : List NtD) (hs : NtRow W q m cap g off os) (ky : Int) (hky : I64 ky) :
    Calls Try.prog 6 #[.slice q m cap, .int .i64 ky] W fun e w' => e = .returned (.bool true) ∧ Below W.heap.size W w' := apart_walk q m cap g off os ky W hs
theorem own : ownKnob Try.prog.godebug = none := by kernel_rfl
theorem laidOut : laidOutB Try.prog = true := by kernel_rfl

set_option maxRecDepth 100000 in
theorem lifted (os : Os) (started : os.Started) (H : Type) (enc : TypeId × Value → H) :
    ReturnsInHanded {} Try.checked os 6 .any (Rows.keeperApartSpec.pre6 enc Try.prog Try.f6 Rows.keeperApartRow.domain false) (Rows.keeperApartSpec.post enc Try.prog Try.f6 false true false false) := by
  refine returnsInHanded_of_change_sized (C := Try.checked) own started (by kernel_rfl) Try.func6
    (ChangeSpec.witness6 (enc := enc) (C := Try.checked) false ⟨#[], #[.slice none 0 0, .int .i64 0], []⟩ 8 (by kernel_rfl) (by kernel_rfl) (by kernel_rfl) (by kernel_rfl)) ?_
  intro W base args ds gs before hval0 hW hcnd hsz _
  have hval : ∀ (j : Nat) t v, Try.f6.params[j]? = some t → args[j]? = some v → Value.okWide Try.prog W .any base t v := hval0
  have hW' := hW
  obtain ⟨p, q, hA0, hV, rfl, hfz, hnd⟩ := hW
  have hA : DataW.TrodAll enc Try.prog W 0 (fun _ => true) true Try.f6.params.toList args.toList ds p := hA0
  rw [Try.params6] at hA hval
  obtain ⟨v0, vs0, d0, ds0, p0, q0, hargs, rfl, rfl, h0, r0⟩ := trodAll_cons hA
  obtain ⟨v1, vs1, d1, ds1, p1, q1, rfl, rfl, rfl, h1, r1⟩ := trodAll_cons r0
  obtain ⟨rfl, rfl, rfl⟩ := trodAll_nil r1
  obtain rfl : args = #[v0, v1] := by cases args; simp_all
  obtain ⟨rfl, rfl⟩ := trodVars_none hV
  have k0 := h0
  have lt0 : ∀ x ∈ p0, x.block < W.heap.size := by obtain ⟨m, hm⟩ := k0; exact DataW.trod_lt m _ _ _ hm
  have k1 := h1
  have lt1 : ∀ x ∈ p1, x.block < W.heap.size := by obtain ⟨m, hm⟩ := k1; exact DataW.trod_lt m _ _ _ hm
  obtain ⟨sq0_, sn0_, sk0_, sg0_, so0_, os0_, rfl, Z0_⟩ := open_notes (hval 0 22 v0 rfl rfl) h0 (fun n hn => by simpa using List.all_eq_true.1 hsz n (DataW.weights_mem_each (j := 0) (t := 22) (by kernel_rfl) rfl n hn))
  obtain ⟨a1, rfl, rfl, rfl, w1⟩ := open_int Try.underlying3 (hval 1 3 v1 rfl rfl) h1
  clear hA0 hval0
  refine (walk sq0_ sn0_ sk0_ sg0_ so0_ os0_ Z0_ a1 (bounds_i64 w1)).mono fun e W' ⟨he, bel⟩ => ?_
  subst he
  exact ⟨_, rfl, _, _, _, [], _, [], hW', trodAll_mk1 (shut_bool Try.underlying4 _), (trodAll_cons_mk (Below.trod laidOut (by kernel_rfl) (of_decide_eq_true (by kernel_rfl)) k0 bel lt0) (trodAll_cons_mk (Below.trod laidOut (by kernel_rfl) (of_decide_eq_true (by kernel_rfl)) k1 bel lt1) trodAll_mk0)), rfl, bel.frame _, fun h => by cases h⟩

theorem over : Rows.keeperApartRow.holds Try.pinned (OpenSpec.ofChange Rows.keeperApartSpec) :=
  OpenClaim.holds_of_wide 6 Try.f6 rfl rfl rfl rfl rfl rfl rfl ⟨rfl, rfl, rfl, rfl, rfl⟩ rfl rfl rfl rfl rfl (by kernel_rfl) Try.func6 (by kernel_rfl)
    (of_decide_eq_true (by kernel_rfl)) (by unfold Func.isWrapper; first | (rw [if_pos (by decide +kernel)]; kernel_rfl) | (rw [if_neg (by decide +kernel)]; exact ⟨rfl, rfl⟩))
    (fun os started H enc _ => lifted os started H enc)

theorem proved : Rows.KeeperApartSaid := over
end Go.Proofs.Ytlhamckpgijjmaa.keeperApart
namespace Go.Proofs.Ytlhamckpgijjmaa
theorem keeperApart_holds : Rows.KeeperApartSaid := keeperApart.proved
#print axioms keeperApart_holds
end Go.Proofs.Ytlhamckpgijjmaa
