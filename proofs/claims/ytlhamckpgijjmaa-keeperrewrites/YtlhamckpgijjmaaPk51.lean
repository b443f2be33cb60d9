/-
  Keeper: Handle in general, where the diary has few rows and the tape is up; two keepers.
  Keeper: summary: the rows of all registers that promised something.
-/
import Derived.Test.YtlhamckpgijjmaaPk50
import Derived.Deep.MidRow
namespace Go.Proofs.Ytlhamckpgijjmaa
open Go.RowKit
set_option linter.unusedVariables false
set_option maxRecDepth 100000

/-- A register whose numbers a machine has, and whose value is short. -/
def RgS (r : Rg) : Prop := In64 (nmR r) ∧ r.l.length ≤ 32
/-- What becomes of a note at a register: what is answered, the register behind it. -/
def Out (N : Nt) (r : Rg) (o : Option (Int × List Int)) (r' : Rg) : Prop :=
  (¬ askB N ∧ o = none ∧ r' = r) ∨ (askB N ∧ skN N.k r N.ns = 2 ∧ o = none ∧ r' = r) ∨ (askB N ∧ skN N.k r N.ns = 11 ∧ o = some (5, N.ns.take 4 ++ nmB r.p) ∧ r' = r) ∨
  (askB N ∧ skN N.k r N.ns = 0 ∧ o = some (if N.k = 3 then 4 else 2, N.ns.take 4 ++ (if N.k = 3 then [] else nmB (skR N.k r N.ns).a ++ (skR N.k r N.ns).l)) ∧ r' = skR N.k r N.ns)
theorem Out.uniq {N : Nt} {r r1 r2 : Rg} {o1 o2 : Option (Int × List Int)} (h : Out N r o1 r1) (k : Out N r o2 r2) : o1 = o2 ∧ r1 = r2 := by
  rcases h with ⟨a, b, c⟩ | ⟨a, a', b, c⟩ | ⟨a, a', b, c⟩ | ⟨a, a', b, c⟩ <;> rcases k with ⟨x, y, z⟩ | ⟨x, x', y, z⟩ | ⟨x, x', y, z⟩ | ⟨x, x', y, z⟩ <;>
    first
    | exact ⟨b.trans y.symm, c.trans z.symm⟩
    | exact absurd x a
    | exact absurd a x
    | (rw [a'] at x'; omega)
theorem skN_of (k : Int) (r : Rg) (ns : List Int) : skN k r ns = 0 ∨ skN k r ns = 11 ∨ skN k r ns = 2 := by
  unfold skN
  split
  · unfold acN
    split
    · split
      · exact .inr (.inl rfl)
      · exact .inl rfl
    · exact .inr (.inr rfl)
  · unfold prN
    split
    · split
      · exact .inl rfl
      · exact .inr (.inl rfl)
    · exact .inr (.inr rfl)
theorem in64_getD {l : List Int} (h : In64 l) (i : Nat) : -9223372036854775808 ≤ l.getD i 0 ∧ l.getD i 0 ≤ 9223372036854775807 := by
  rw [List.getD_eq_getElem?_getD]
  cases hx : l[i]? with
  | none => simp
  | some x => exact h x (List.mem_of_getElem? hx)
theorem in64_nmB {ns : List Int} (h : In64 ns) : In64 (nmB (qB ns)) := by
  intro x hx
  unfold nmB qB at hx
  simp only [List.mem_cons, List.not_mem_nil, or_false] at hx
  rcases hx with rfl | rfl | rfl
  · exact in64_getD h 1
  · exact in64_getD h 2
  · exact in64_getD h 3
theorem skR_small {k : Int} {r : Rg} {ns : List Int} (hr : RgS r) (hn : In64 ns) (hl : ns.length ≤ 36) (h0 : skN k r ns = 0) : RgS (skR k r ns) := by
  have hb := in64_nmB hn
  unfold skN at h0
  unfold skR
  split
  · rename_i h3
    rw [if_pos h3] at h0
    unfold acR
    rw [if_pos h0]
    refine ⟨fun x hx => ?_, by show (ns.drop 4).length ≤ 32; rw [List.length_drop]; omega⟩
    unfold nmR at hx
    rcases List.mem_append.1 hx with hx | hx
    · rcases List.mem_append.1 hx with hx | hx
      · exact hb x hx
      · exact hb x hx
    · exact hn x (List.mem_of_mem_drop hx)
  · rename_i h3
    rw [if_neg h3] at h0
    unfold prR
    rw [if_pos h0]
    refine ⟨fun x hx => ?_, hr.2⟩
    unfold nmR at hx
    rcases List.mem_append.1 hx with hx | hx
    · rcases List.mem_append.1 hx with hx | hx
      · exact hb x hx
      · exact hr.1 x (by unfold nmR; exact List.mem_append_left _ (List.mem_append_right _ hx))
    · exact hr.1 x (by unfold nmR; exact List.mem_append_right _ hx)
theorem rowB_short (k : Int) (r : Rg) (h : r.l.length ≤ 32) : (rowB k r).length ≤ 360 := by
  unfold rowB
  have h1 := numsB_len [k]
  have h2 := numsB_len (nmR r)
  have h3 : (nmR r).length = 6 + r.l.length := by unfold nmR nmB; simp only [List.length_append, List.length_cons, List.length_nil]
  simp only [List.nil_append, List.length_append, List.length_cons, List.length_nil] at *
  omega
theorem ask_short {N : Nt} (h : askB N) : N.ns.length ≤ 36 ∧ 4 ≤ N.ns.length := by
  have h1 := h.2.1.fit
  unfold FitK at h1
  rcases h.1 with e | e
  · rw [e] at h1; omega
  · rw [e] at h1; omega
/-- What is answered, in memory. -/
def AnsP (W : World) (base : Nat) (N : Nt) (o : Option (Int × List Int)) (e : Ending) : Prop := (o = none → e = .returned (.slice none 0 0)) ∧ ∀ k l, o = some (k, l) → AnP W base k N.t N.f l e
/-- What a keeper is behind a note. -/
structure HfP (w w' : World) (base b : Nat) (v v' : Value) (d kb : Nat) (l l' : List Nat) (s' n n' nr nr' nb nb' : Nat) (node : Int) (os os' : List KD) (N : Nt) (o : Option (Int × List Int)) : Prop where
  km : Km b d kb w w' v v'
  kp : Kp w' base b v' d kb (up l' s' n') nr' nb' node os'
  bd : nr' ≤ nr + 1 ∧ nb' ≤ nb + 1000 ∧ l'.length ≤ l.length + 1000 ∧ n' ≤ n + 2
  rg : ∀ x ∈ os', RgS (rgK x)
  gets : ∀ (key : Nat) (x : KD), os[key]? = some x → ∃ x', os'[key]? = some x' ∧ (N.ns.getD 0 0 ≠ (key : Int) → rgK x' = rgK x) ∧ (N.ns.getD 0 0 = (key : Int) → Out N (rgK x) o (rgK x'))
theorem Km.of_below {b d kb : Nat} {w w' : World} (v : Value) (h : Below w.heap.size w w') : Km b d kb w w' v v := ⟨h.os, h.tape, h.output, h.size, fun k hk _ _ _ _ => h.block k hk, fun x hx => .inl hx⟩
set_option maxHeartbeats 4000000 in
theorem khandle_few (base b : Nat) (v0 : Value) (d kb : Nat) (l : List Nat) (s n nr nb : Nat) (node : Int) (os : List KD) (N : Nt) (vn vo ve : Value) (w : World) (hKp : Kp w base b v0 d kb (up l s n) nr nb node os) (hn : n ≤ 1000000) (hnr : nr ≤ 200) (hnb : nb ≤ 1000000) (hll : l.length ≤ 500000) (hik : Ik w base vn N.ns) (h2 : SR 5 k64 w vo N.os) (h3 : SR 76 ek w ve N.es) (ht : N.t = node) (hN : In64 N.ns) (hos : ∀ x ∈ os, RgS (rgK x)) :
    Calls Try.prog 12 #[tptr kb, ntV N vn vo ve] w fun e w' => ∃ v' l' s' n' nr' nb' os' o, HfP w w' base b v0 v' d kb l l' s' n n' nr nr' nb nb' node os os' N o ∧ AnsP w' w.heap.size N o e := by
  have stay : ∀ w' (hb : Below w.heap.size w w') (o : Option (Int × List Int)), (∀ (key : Nat) (x : KD), os[key]? = some x → N.ns.getD 0 0 = (key : Int) → Out N (rgK x) o (rgK x)) → HfP w w' base b v0 v0 d kb l l s n n nr nr nb nb node os os N o := fun w' hb o ho =>
    ⟨Km.of_below v0 hb, hKp.keep hb, by omega, hos, fun key x hx => ⟨x, hx, fun _ => rfl, ho key x hx⟩⟩
  by_cases hA : askB N
  rotate_left
  · refine (khandle_no kb d node os N vn vo ve w hKp.kp hik.is h2 h3 (.inr hA)).mono ?_
    rintro e w' ⟨rfl, hb⟩
    exact ⟨v0, l, s, n, nr, nb, os, none, stay w' hb none (fun _ _ _ _ => .inl ⟨hA, rfl, rfl⟩), fun _ => rfl, fun k l h => by cases h⟩
  obtain ⟨hs36, hs4⟩ := ask_short hA
  have hkb := hA.2.2
  unfold keyB at hkb
  rw [Bool.and_eq_true] at hkb
  have hk0 := of_decide_eq_true hkb.1
  have hk1 := of_decide_eq_true hkb.2
  obtain ⟨key, hkey⟩ := Int.eq_ofNat_of_zero_le hk0
  have h100 : key < 100 := by omega
  obtain ⟨x, hx⟩ : ∃ x, os[key]? = some x := ⟨os[key]'(by rw [hKp.len]; omega), List.getElem?_eq_getElem _⟩
  have hxm := List.mem_of_getElem? hx
  have hxs := hos x hxm
  have hxi := hKp.im x hxm
  have same : ∀ (key' : Nat) (x' : KD), os[key']? = some x' → N.ns.getD 0 0 = (key' : Int) → x' = x := fun key' x' hx' he => by
    have : key' = key := by omega
    subst this
    rw [hx] at hx'
    exact (Option.some.inj hx').symm
  rcases skN_of N.k (rgK x) N.ns with h0 | h0 | h0
  · have hr := skR_small hxs hN hs36 h0
    have hrow := rowB_short (key : Int) _ hr.2
    have hfl : (frm (rowB (key : Int) (skR N.k (rgK x) N.ns))).length = 8 + (rowB (key : Int) (skR N.k (rgK x) N.ns)).length := frm_len _
    obtain ⟨hw0, hwS⟩ := wr_up l (frm (rowB (key : Int) (skR N.k (rgK x) N.ns))) s n (by omega)
    refine (khandle_keep base b v0 d kb key _ nr nb node os x N vn vo ve w hKp (by show n < _; omega) hnr (by omega) hik h2 h3 ht hA hkey hx h100 (by have := hxs.2; show x.l.length ≤ 1000; exact Nat.le_trans this (by omega)) h0 hr.1 (Nat.le_trans hr.2 (by omega))).mono ?_
    rintro e w' ⟨v', hm, -, hk⟩
    obtain ⟨q, n9, c, hK', hAn⟩ := hk hw0
    rw [hwS] at hK'
    refine ⟨v', _, _, _, _, _, _, some (if N.k = 3 then 4 else 2, N.ns.take 4 ++ (if N.k = 3 then [] else nmB (skR N.k (rgK x) N.ns).a ++ (skR N.k (rgK x) N.ns).l)), ⟨hm, hK', ⟨Nat.le_refl _, by omega, by rw [List.length_append]; omega, Nat.le_refl _⟩, fun y hy => ?_, fun key' x' hx' => ?_⟩, fun h => (by cases h), fun k9 l9 h => ?_⟩
    · rcases List.mem_or_eq_of_mem_set hy with hy | hy
      · exact hos y hy
      · rw [hy]; exact hr
    · by_cases e : key' = key
      · subst e
        have := same key' x' hx' hkey
        subst this
        refine ⟨_, List.getElem?_set_self (by rw [hKp.len]; omega), fun h => absurd hkey h, fun _ => .inr (.inr (.inr ⟨hA, h0, rfl, rfl⟩))⟩
      · refine ⟨x', by rw [List.getElem?_set_ne (fun h => e h.symm)]; exact hx', fun _ => rfl, fun h => absurd h (by omega)⟩
    · cases h; exact hAn
  · refine (khandle_stale kb d key node os x N vn vo ve w hKp.kp hik.is h2 h3 ht hA hkey hx h100 hxi.is (Nat.le_trans hxs.2 (by omega)) h0).mono ?_
    rintro e w' ⟨hAn, hb⟩
    refine ⟨v0, l, s, n, nr, nb, os, some (5, N.ns.take 4 ++ nmB x.p), stay w' hb _ (fun key' x' hx' he => ?_), fun h => (by cases h), fun k9 l9 h => (by cases h; exact hAn)⟩
    have := same key' x' hx' he
    subst this
    exact .inr (.inr (.inl ⟨hA, h0, rfl, rfl⟩))
  · refine (khandle_form kb d key node os x N vn vo ve w hKp.kp hik.is h2 h3 ht hA hkey hx h100 hxi.is (Nat.le_trans hxs.2 (by omega)) h0).mono ?_
    rintro e w' ⟨rfl, hb⟩
    refine ⟨v0, l, s, n, nr, nb, os, none, stay w' hb _ (fun key' x' hx' he => ?_), fun _ => rfl, fun k9 l9 h => (by cases h)⟩
    have := same key' x' hx' he
    subst this
    exact .inr (.inl ⟨hA, h0, rfl, rfl⟩)
/-- Two keepers that share no block. -/
structure Two (ba da ka : Nat) (va : Value) (bb db kb : Nat) (vb : Value) : Prop where
  b : ba ≠ bb
  d : da ≠ db
  k : ka ≠ kb
  v : Sep va vb
theorem Two.swap {ba da ka : Nat} {va : Value} {bb db kb : Nat} {vb : Value} (h : Two ba da ka va bb db kb vb) : Two bb db kb vb ba da ka va := ⟨h.b.symm, h.d.symm, h.k.symm, h.v.symm⟩
/-- The other keeper stays. -/
theorem Kp.other {W W' : World} {base ba da ka bb db kb nr nb nr2 nb2 : Nat} {va va' vb : Value} {S T : TS} {node node2 : Int} {os os2 : List KD} (hA : Kp W base ba va da ka S nr nb node os) (hB : Kp W base bb vb db kb T nr2 nb2 node2 os2) (m : Km ba da ka W W' va va') (ht : Two ba da ka va bb db kb vb) : Kp W' base bb vb db kb T nr2 nb2 node2 os2 ∧ Two ba da ka va' bb db kb vb := by
  have hlt := hB.ages
  have hb : W'.heap[bb]? = W.heap[bb]? := m.other bb hlt.2.2.2.1 (fun e => ht.b e.symm) (blk_ne hB.tp.blk hA.dy (by decide)) (blk_ne hB.tp.blk hA.kp (by decide)) (blk_own hA.tp.own hB.tp.blk (by decide))
  have hd : W'.heap[db]? = W.heap[db]? := m.other db hlt.2.2.2.2.1 (blk_ne hB.dy hA.tp.blk (by decide)) (fun e => ht.d e.symm) (blk_ne hB.dy hA.kp (by decide)) (blk_own hA.tp.own hB.dy (by decide))
  have hk : W'.heap[kb]? = W.heap[kb]? := m.other kb hlt.2.2.2.2.2.1 (blk_ne hB.kp hA.tp.blk (by decide)) (blk_ne hB.kp hA.dy (by decide)) (fun e => ht.k e.symm) (blk_own hA.tp.own hB.kp (by decide))
  refine ⟨⟨⟨hB.tp.ge, by unfold Blk; rw [hb]; exact hB.tp.blk, own_at hB.tp.own (fun g hg => m.other g (hB.tp.own.lt g hg).2 (fun e => blk_own hB.tp.own hA.tp.blk (by decide) (by rw [← e]; exact hg)) (fun e => blk_own hB.tp.own hA.dy (by decide) (by rw [← e]; exact hg)) (fun e => blk_own hB.tp.own hA.kp (by decide) (by rw [← e]; exact hg)) (fun e => ht.v g e hg)), hB.tp.sure, hB.tp.max, hB.tp.bo, hB.tp.br⟩, by unfold Blk; rw [hd]; exact hB.dy, by unfold Blk; rw [hk]; exact hB.kp, hB.len, fun r hr => ?_, hB.gd, hB.gk⟩, ⟨ht.b, ht.d, ht.k, fun g hg e => ?_⟩⟩
  · have h := hB.im r hr
    exact own_at h fun g hg => m.other g (h.lt g hg).2 (fun e => blk_own h hA.tp.blk (by decide) (by rw [← e]; exact hg)) (fun e => blk_own h hA.dy (by decide) (by rw [← e]; exact hg)) (fun e => blk_own h hA.kp (by decide) (by rw [← e]; exact hg)) (fun e => sep_ty h hA.tp.own (by decide) g hg e)
  · rcases m.next g hg with h | h
    · exact ht.v g h e
    · have := (hB.tp.own.lt g e).2; omega
end Go.Proofs.Ytlhamckpgijjmaa
namespace Go.Proofs.Ytlhamckpgijjmaa
open Go.RowKit
set_option linter.unusedVariables false
set_option maxRecDepth 100000

/-- The rows of the registers below key k. -/
def sumT (os : List KD) : Nat → List (List Nat)
  | 0 => []
  | k + 1 => sumT os k ++ (match os[k]? with
    | some x => if eqB x.p zB then [] else [rowB (k : Int) (rgK x)]
    | none => [])
theorem sumT_no {os : List KD} {k : Nat} {x : KD} (hx : os[k]? = some x) (h : eqB x.p zB = true) : sumT os (k + 1) = sumT os k := by
  show sumT os k ++ _ = _
  rw [hx]
  dsimp only
  rw [h]
  simp
theorem sumT_yes {os : List KD} {k : Nat} {x : KD} (hx : os[k]? = some x) (h : eqB x.p zB = false) : sumT os (k + 1) = sumT os k ++ [rowB (k : Int) (rgK x)] := by
  show sumT os k ++ _ = _
  rw [hx]
  dsimp only
  rw [h]
  simp
theorem sumT_len (os : List KD) (k : Nat) : (sumT os k).length ≤ k := by
  induction k with
  | zero => exact Nat.le_refl _
  | succ k ih =>
    show (sumT os k ++ _).length ≤ k + 1
    rw [List.length_append]
    cases os[k]? with
    | none => simp; omega
    | some x =>
      dsimp only
      split <;> simp <;> omega
theorem neBtK (x y : Bt) (w : World) : (binOp .neq 38 (bV x) (bV y)).run Try.prog w = .ok (.bool (!eqB x y)) w := by
  have h : eqB x y = (decide (x.n = y.n) && (decide (x.nd = y.nd) && decide (x.lf = y.lf))) := by unfold eqB; rw [Bool.eq_iff_iff]; simp
  rw [h]
  by_cases h1 : x.n = y.n
  · by_cases h2 : x.nd = y.nd
    · by_cases h3 : x.lf = y.lf
      · simp [go_sem, h1, h2, h3]
      · simp [go_sem, h1, h2, h3]
    · simp [go_sem, h1, h2]
  · simp [go_sem, h1]
theorem encK_ex {os : List KD} {key : Nat} {x : KD} (hx : os[key]? = some x) : (os.flatMap encK).toArray.extract (key * 7) (key * 7 + 7) = (encK x).toArray := by
  have hl : (os.flatMap encK).length = os.length * 7 := kfl_len encK_len os
  have hk : key < os.length := (List.getElem?_eq_some_iff.1 hx).1
  apply Array.ext
  · simp only [Array.size_extract, List.size_toArray, hl, encK_len]
    have : (key + 1) * 7 ≤ os.length * 7 := Nat.mul_le_mul_right _ hk
    omega
  · intro i h1 h2
    have hi : i < 7 := by simpa [encK_len] using h2
    have h9 := kfl_at encK_len hx hi
    rw [Array.getElem_extract]
    have h3 : (os.flatMap encK).toArray[key * 7 + i]? = (encK x).toArray[i]? := by simpa using h9
    rw [Array.getElem?_eq_getElem h2] at h3
    exact (Array.getElem?_eq_some_iff.1 h3).2
theorem index_reg (os : List KD) (hl : os.length = 100) (key : Nat) (x : KD) (hx : os[key]? = some x) (W : World) : (Instr.index 68 (.agg (os.flatMap encK).toArray) (.int .i64 (key : Int))).run Try.prog W = .ok (.agg (encK x).toArray) W := by
  have hk : key < os.length := (List.getElem?_eq_some_iff.1 hx).1
  have hs : (sizeOf 40).run Try.prog W = .ok 7 W := by kernel_rfl
  have hg : (isAgg 40).run Try.prog W = .ok true W := by kernel_rfl
  unfold Instr.index
  simp only [asIntOf, Sem.run_bind, Sem.run_pure, Result.andThen_ok, run_underlying Try.underlying68]
  rw [if_pos (by omega)]
  simp only [Sem.run_bind, hs, Result.andThen_ok, part, hg, if_true, Sem.run_pure, Int.toNat_natCast]
  rw [encK_ex hx]
theorem info_ks (os : List KD) (hl : os.length = 100) : (Try.prog.info? 68).map (·.size) = some (os.flatMap encK).length := by
  rw [kfl_len encK_len, hl]
  kernel_rfl
theorem range_k {W : World} {kb d : Nat} {node : Int} {os : List KD} (h : Blk W kb (kpC d node os) 70) : W.rangeAt kb 2 (os.flatMap encK) := fun j v hv => by
  refine h.at ?_
  unfold kpC
  rw [List.getElem?_toArray, show 2 + j = j + 1 + 1 by omega, List.getElem?_cons_succ, List.getElem?_cons_succ]
  exact hv
set_option maxHeartbeats 4000000 in
theorem ksummary_any (kb d : Nat) (node : Int) (os : List KD) (w : World) (hk : Blk w kb (kpC d node os) 70) (hl : os.length = 100) (him : ∀ x ∈ os, Is w x.v x.l) (hrg : ∀ x ∈ os, RgS (rgK x)) :
    Calls Try.prog 47 #[tptr kb] w fun e w' => ∃ v vs, e = .returned v ∧ Lis w' w.heap.size v vs (sumT os 100) ∧ Below w.heap.size w w' := by
  go_enter Try.func47, Try.ntmps47
  go_upto_region 2 with fail
  go_wp2_with (refine wpList_load_mid rfl _ _ rfl kb 2 rfl (os.flatMap encK) _ (range_k hk) Try.underlying68 rfl (info_ks os hl) ?_)
  have HIX : Hid (∀ (key : Nat) (x : KD), os[key]? = some x → ∀ W, (Instr.index 68 (.agg (os.flatMap encK).toArray) (.int .i64 (key : Int))).run Try.prog W = .ok (.agg (encK x).toArray) W) := fun key x hx W => index_reg os hl key x hx W
  generalize (os.flatMap encK).toArray = arrK at HIX ⊢
  go_loopw [3, 10] (fun v i wr => ∃ (k : Nat) (vs : List Value), k ≤ 100 ∧ i = .int .i64 (k : Int) ∧ Lis wr w.heap.size v vs (sumT os k) ∧ Below w.heap.size w wr) (fun _ i _ => 100 - (intOf i).toNat)
  case atStart => exact ⟨0, [], by omega, rfl, Lis.nil w _, Below.refl _ _⟩
  case round =>
    obtain ⟨k, vs, hk1, rfl, hL, hb⟩ := hrel
    by_cases ck : k = 100
    · subst ck
      go_wp2_with fail
      go_ret
      exact ⟨_, vs, rfl, hL, hb⟩
    have hki : (k : Int) < 100 := by omega
    obtain ⟨x, hx⟩ : ∃ x, os[k]? = some x := ⟨os[k]'(by omega), List.getElem?_eq_getElem _⟩
    have hxm := List.mem_of_getElem? hx
    have hi := him x hxm
    have hr := hrg x hxm
    have hix0 := HIX.out k x hx
    obtain ⟨p, a, v9, l⟩ := x
    dsimp only at hi
    obtain ⟨q, c, e⟩ := hi.form
    subst e
    obtain ⟨n, hn⟩ : ∃ n, l.length = n := ⟨_, rfl⟩
    rw [hn] at hi hx hix0
    have hix : ∀ W, (Instr.index 68 (.agg arrK) (.int .i64 (k : Int))).run Try.prog W = .ok (rV p a (.slice q n c)) W := hix0
    clear hix0
    have hsl := sumT_len os k
    go_upto_region 5 with fail
    generalize hAe : wr.alloc _ = A
    have hB : Blk A wr.heap.size (rC p a (.slice q n c)) 40 := by rw [← hAe]; exact Blk.new _ _ _
    have vA : Below wr.heap.size wr A := by rw [← hAe]; exact (Below.refl _ _).alloc (Nat.le_refl _) _
    clear hAe hix
    have y0 : A.cell? ⟨wr.heap.size, 0, none⟩ = some (.int .i64 p.n) := hB.at rfl
    have y1 : A.cell? ⟨wr.heap.size, 1, none⟩ = some (.int .i64 p.nd) := hB.at rfl
    have y2 : A.cell? ⟨wr.heap.size, 2, none⟩ = some (.int .i64 p.lf) := hB.at rfl
    have y3 : A.cell? ⟨wr.heap.size, 3, none⟩ = some (.int .i64 a.n) := hB.at rfl
    have y4 : A.cell? ⟨wr.heap.size, 4, none⟩ = some (.int .i64 a.nd) := hB.at rfl
    have y5 : A.cell? ⟨wr.heap.size, 5, none⟩ = some (.int .i64 a.lf) := hB.at rfl
    have y6 : A.cell? ⟨wr.heap.size, 6, none⟩ = some (.slice q n c) := hB.at rfl
    have E1 : ∀ w, (binOp .neq 38 (bV p) (.agg #[.int .i64 0, .int .i64 0, .int .i64 0])).run Try.prog w = .ok (.bool (!eqB p zB)) w := neBtK p zB
    have hbA := ab_trans hb vA
    have hLA := hL.keep vA
    cases he : eqB p zB
    rotate_left
    · have HN : Hid (sumT os (k + 1) = sumT os k) := sumT_no hx he
      rw [he] at E1
      clear he hx hB
      go_wp2_with fail
      exact ⟨⟨k + 1, vs, by omega, rfl, by rw [HN.out]; exact hLA, hbA⟩, by simp only [intOf]; omega⟩
    · have HN : Hid (sumT os (k + 1) = sumT os k ++ [rowB (k : Int) ⟨p, a, l⟩]) := sumT_yes hx he
      rw [he] at E1
      clear he hx
      go_wp2_with fail
      clear y0 y1 y2 y3 y4 y5 y6 E1
      refine (krow_any (k : Int) ⟨p, a, l⟩ _ _ (hi.keep hbA) (Nat.le_trans hr.2 (by omega)) (fun z hz => by rw [List.mem_singleton.1 hz]; omega) hr.1).mono ?_
      rintro e W3 ⟨u, rfl, HO3, b3⟩
      obtain ⟨q5, cap5, rfl⟩ := HO3.form
      obtain ⟨F, hF⟩ : ∃ F, rowB (k : Int) ⟨p, a, l⟩ = F := ⟨_, rfl⟩
      rw [hF] at HO3 HN ⊢
      obtain ⟨nF, hnF⟩ : ∃ n, F.length = n := ⟨_, rfl⟩
      have HO4 := HO3
      rw [hnF] at HO3 ⊢
      go_wp2_with (first
        | (refine bs_ls rfl rfl [_] [F] (by simp only [List.map_toArray, List.map_cons, List.map_nil]; rfl) (bsl1 _ _ _ _) rfl (by decide) rfl (each1 HO3.sl) ?_; intro W4 hls4 hb4 hbk4)
        | (at_builtin; refine app1 w rfl rfl rfl (own_keep hLA.row (ab_trans b3 hb4)) rfl ⟨_, _, _, rfl⟩ (hbk4.at (i := 0) rfl) (by omega) (ab_trans hbA (ab_trans b3 hb4)) ?_; intro v6 W6 hown6 hnn6 hb6 hgr6 hat6))
      have hfin := hLA.snoc (ab_trans b3 hb4) (HO3.keep hb4) hbA.size hown6 hgr6 hat6
      exact ⟨⟨k + 1, _, by omega, rfl, by rw [HN.out]; exact hfin, hb6⟩, by simp only [intOf]; omega⟩
end Go.Proofs.Ytlhamckpgijjmaa
