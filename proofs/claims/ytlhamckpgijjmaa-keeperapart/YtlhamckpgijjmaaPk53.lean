/-
  Keeper: Handle in general, where the diary has few rows and the tape is up; two keepers.
  A row of notes that comes in.
-/
import Derived.Test.YtlhamckpgijjmaaPk52
import Derived.Test.YtlhamckpgijjmaaPk45
import Derived.Test.YtlhamckpgijjmaaPk31
import Derived.ProofKit
import Derived.OpenShut
import Derived.ChangeOld
import Derived.Below
namespace Go.Proofs.Ytlhamckpgijjmaa
open Go.RowKit
set_option linter.unusedVariables false
set_option maxRecDepth 100000

/-- A register whose numbers a machine has, and whose value is short. -/
def RgS (r : Rg) : Prop := In64 (nmR r) ∧ r.l.length ≤ 32
/-- What becomes of a note at a register: what is answered, the register behind it. -/
def Out (N : Nt) (r : Rg) (o : Option (Int × List Int)) (r' : Rg) : Prop :=
  (¬ askB N ∧ o = none ∧ r' = r) ∨ (askB N ∧ skN N.k r N.ns = 2 ∧ o = none ∧ r' = r) ∨ (askB N ∧ skN N.k r N.ns = 11 ∧ o = some (5, N.ns.take 4 ++ nmB r.p) ∧ r' = r) ∨
  (askB N ∧ skN N.k r N.ns = 0 ∧ o = some (if N.k = 3 then 4 else 2, N.ns.take 4 ++ (if N.k = 3 then [] else nmB (skR N.k r N.ns).a ++ (skR N.k r N.ns).l)) ∧ r' = skR N.k r N.ns)
theorem Out.uniq {N : Nt} {r r1 r2 : Rg} {o1 o2 : Option (Int × List Int)} (h : Out N r o1 r1) (k : Out N r o2 r2) : o1 = o2 ∧ r1 = r2 := by
  rcases h with ⟨a, b, c⟩ | ⟨a, a', b, c⟩ | ⟨a, a', b, c⟩ | ⟨a, a', b, c⟩ <;> rcases k with ⟨x, y, z⟩ | ⟨x, x', y, z⟩ | ⟨x, x', y, z⟩ | ⟨x, x', y, z⟩ <;>
    first
    | exact ⟨b.trans y.symm, c.trans z.symm⟩
    | exact absurd x a
    | exact absurd a x
    | (rw [a'] at x'; omega)
theorem skN_of (k : Int) (r : Rg) (ns : List Int) : skN k r ns = 0 ∨ skN k r ns = 11 ∨ skN k r ns = 2 := by
  unfold skN
  split
  · unfold acN
    split
    · split
      · exact .inr (.inl rfl)
      · exact .inl rfl
    · exact .inr (.inr rfl)
  · unfold prN
    split
    · split
      · exact .inl rfl
      · exact .inr (.inl rfl)
    · exact .inr (.inr rfl)
theorem in64_getD {l : List Int} (h : In64 l) (i : Nat) : -9223372036854775808 ≤ l.getD i 0 ∧ l.getD i 0 ≤ 9223372036854775807 := by
  rw [List.getD_eq_getElem?_getD]
  cases hx : l[i]? with
  | none => simp
  | some x => exact h x (List.mem_of_getElem? hx)
theorem in64_nmB {ns : List Int} (h : In64 ns) : In64 (nmB (qB ns)) := by
  intro x hx
  unfold nmB qB at hx
  simp only [List.mem_cons, List.not_mem_nil, or_false] at hx
  rcases hx with rfl | rfl | rfl
  · exact in64_getD h 1
  · exact in64_getD h 2
  · exact in64_getD h 3
theorem skR_small {k : Int} {r : Rg} {ns : List Int} (hr : RgS r) (hn : In64 ns) (hl : ns.length ≤ 36) (h0 : skN k r ns = 0) : RgS (skR k r ns) := by
  have hb := in64_nmB hn
  unfold skN at h0
  unfold skR
  split
  · rename_i h3
    rw [if_pos h3] at h0
    unfold acR
    rw [if_pos h0]
    refine ⟨fun x hx => ?_, by show (ns.drop 4).length ≤ 32; rw [List.length_drop]; omega⟩
    unfold nmR at hx
    rcases List.mem_append.1 hx with hx | hx
    · rcases List.mem_append.1 hx with hx | hx
      · exact hb x hx
      · exact hb x hx
    · exact hn x (List.mem_of_mem_drop hx)
  · rename_i h3
    rw [if_neg h3] at h0
    unfold prR
    rw [if_pos h0]
    refine ⟨fun x hx => ?_, hr.2⟩
    unfold nmR at hx
    rcases List.mem_append.1 hx with hx | hx
    · rcases List.mem_append.1 hx with hx | hx
      · exact hb x hx
      · exact hr.1 x (by unfold nmR; exact List.mem_append_left _ (List.mem_append_right _ hx))
    · exact hr.1 x (by unfold nmR; exact List.mem_append_right _ hx)
theorem rowB_short (k : Int) (r : Rg) (h : r.l.length ≤ 32) : (rowB k r).length ≤ 360 := by
  unfold rowB
  have h1 := numsB_len [k]
  have h2 := numsB_len (nmR r)
  have h3 : (nmR r).length = 6 + r.l.length := by unfold nmR nmB; simp only [List.length_append, List.length_cons, List.length_nil]
  simp only [List.nil_append, List.length_append, List.length_cons, List.length_nil] at *
  omega
theorem ask_short {N : Nt} (h : askB N) : N.ns.length ≤ 36 ∧ 4 ≤ N.ns.length := by
  have h1 := h.2.1.fit
  unfold FitK at h1
  rcases h.1 with e | e
  · rw [e] at h1; omega
  · rw [e] at h1; omega
/-- What is answered, in memory. -/
def AnsP (W : World) (base : Nat) (N : Nt) (o : Option (Int × List Int)) (e : Ending) : Prop := (o = none → e = .returned (.slice none 0 0)) ∧ ∀ k l, o = some (k, l) → AnP W base k N.t N.f l e
/-- What a keeper is behind a note. -/
structure HfP (w w' : World) (base b : Nat) (v v' : Value) (d kb : Nat) (l l' : List Nat) (s' n n' nr nr' nb nb' : Nat) (node : Int) (os os' : List KD) (N : Nt) (o : Option (Int × List Int)) : Prop where
  km : Km b d kb w w' v v'
  kp : Kp w' base b v' d kb (up l' s' n') nr' nb' node os'
  bd : nr' ≤ nr + 1 ∧ nb' ≤ nb + 1000 ∧ l'.length ≤ l.length + 1000 ∧ n' ≤ n + 2
  rg : ∀ x ∈ os', RgS (rgK x)
  gets : ∀ (key : Nat) (x : KD), os[key]? = some x → ∃ x', os'[key]? = some x' ∧ (N.ns.getD 0 0 ≠ (key : Int) → rgK x' = rgK x) ∧ (N.ns.getD 0 0 = (key : Int) → Out N (rgK x) o (rgK x'))
theorem Km.of_below {b d kb : Nat} {w w' : World} (v : Value) (h : Below w.heap.size w w') : Km b d kb w w' v v := ⟨h.os, h.tape, h.output, h.size, fun k hk _ _ _ _ => h.block k hk, fun x hx => .inl hx⟩
set_option maxHeartbeats 4000000 in
theorem khandle_few (base b : Nat) (v0 : Value) (d kb : Nat) (l : List Nat) (s n nr nb : Nat) (node : Int) (os : List KD) (N : Nt) (vn vo ve : Value) (w : World) (hKp : Kp w base b v0 d kb (up l s n) nr nb node os) (hn : n ≤ 1000000) (hnr : nr ≤ 200) (hnb : nb ≤ 1000000) (hll : l.length ≤ 500000) (hik : Ik w base vn N.ns) (h2 : SR 5 k64 w vo N.os) (h3 : SR 76 ek w ve N.es) (ht : N.t = node) (hN : In64 N.ns) (hos : ∀ x ∈ os, RgS (rgK x)) :
    Calls Try.prog 12 #[tptr kb, ntV N vn vo ve] w fun e w' => ∃ v' l' s' n' nr' nb' os' o, HfP w w' base b v0 v' d kb l l' s' n n' nr nr' nb nb' node os os' N o ∧ AnsP w' w.heap.size N o e := by
  have stay : ∀ w' (hb : Below w.heap.size w w') (o : Option (Int × List Int)), (∀ (key : Nat) (x : KD), os[key]? = some x → N.ns.getD 0 0 = (key : Int) → Out N (rgK x) o (rgK x)) → HfP w w' base b v0 v0 d kb l l s n n nr nr nb nb node os os N o := fun w' hb o ho =>
    ⟨Km.of_below v0 hb, hKp.keep hb, by omega, hos, fun key x hx => ⟨x, hx, fun _ => rfl, ho key x hx⟩⟩
  by_cases hA : askB N
  rotate_left
  · refine (khandle_no kb d node os N vn vo ve w hKp.kp hik.is h2 h3 (.inr hA)).mono ?_
    rintro e w' ⟨rfl, hb⟩
    exact ⟨v0, l, s, n, nr, nb, os, none, stay w' hb none (fun _ _ _ _ => .inl ⟨hA, rfl, rfl⟩), fun _ => rfl, fun k l h => by cases h⟩
  obtain ⟨hs36, hs4⟩ := ask_short hA
  have hkb := hA.2.2
  unfold keyB at hkb
  rw [Bool.and_eq_true] at hkb
  have hk0 := of_decide_eq_true hkb.1
  have hk1 := of_decide_eq_true hkb.2
  obtain ⟨key, hkey⟩ := Int.eq_ofNat_of_zero_le hk0
  have h100 : key < 100 := by omega
  obtain ⟨x, hx⟩ : ∃ x, os[key]? = some x := ⟨os[key]'(by rw [hKp.len]; omega), List.getElem?_eq_getElem _⟩
  have hxm := List.mem_of_getElem? hx
  have hxs := hos x hxm
  have hxi := hKp.im x hxm
  have same : ∀ (key' : Nat) (x' : KD), os[key']? = some x' → N.ns.getD 0 0 = (key' : Int) → x' = x := fun key' x' hx' he => by
    have : key' = key := by omega
    subst this
    rw [hx] at hx'
    exact (Option.some.inj hx').symm
  rcases skN_of N.k (rgK x) N.ns with h0 | h0 | h0
  · have hr := skR_small hxs hN hs36 h0
    have hrow := rowB_short (key : Int) _ hr.2
    have hfl : (frm (rowB (key : Int) (skR N.k (rgK x) N.ns))).length = 8 + (rowB (key : Int) (skR N.k (rgK x) N.ns)).length := frm_len _
    obtain ⟨hw0, hwS⟩ := wr_up l (frm (rowB (key : Int) (skR N.k (rgK x) N.ns))) s n (by omega)
    refine (khandle_keep base b v0 d kb key _ nr nb node os x N vn vo ve w hKp (by show n < _; omega) hnr (by omega) hik h2 h3 ht hA hkey hx h100 (by have := hxs.2; show x.l.length ≤ 1000; exact Nat.le_trans this (by omega)) h0 hr.1 (Nat.le_trans hr.2 (by omega))).mono ?_
    rintro e w' ⟨v', hm, -, hk⟩
    obtain ⟨q, n9, c, hK', hAn⟩ := hk hw0
    rw [hwS] at hK'
    refine ⟨v', _, _, _, _, _, _, some (if N.k = 3 then 4 else 2, N.ns.take 4 ++ (if N.k = 3 then [] else nmB (skR N.k (rgK x) N.ns).a ++ (skR N.k (rgK x) N.ns).l)), ⟨hm, hK', ⟨Nat.le_refl _, by omega, by rw [List.length_append]; omega, Nat.le_refl _⟩, fun y hy => ?_, fun key' x' hx' => ?_⟩, fun h => (by cases h), fun k9 l9 h => ?_⟩
    · rcases List.mem_or_eq_of_mem_set hy with hy | hy
      · exact hos y hy
      · rw [hy]; exact hr
    · by_cases e : key' = key
      · subst e
        have := same key' x' hx' hkey
        subst this
        refine ⟨_, List.getElem?_set_self (by rw [hKp.len]; omega), fun h => absurd hkey h, fun _ => .inr (.inr (.inr ⟨hA, h0, rfl, rfl⟩))⟩
      · refine ⟨x', by rw [List.getElem?_set_ne (fun h => e h.symm)]; exact hx', fun _ => rfl, fun h => absurd h (by omega)⟩
    · cases h; exact hAn
  · refine (khandle_stale kb d key node os x N vn vo ve w hKp.kp hik.is h2 h3 ht hA hkey hx h100 hxi.is (Nat.le_trans hxs.2 (by omega)) h0).mono ?_
    rintro e w' ⟨hAn, hb⟩
    refine ⟨v0, l, s, n, nr, nb, os, some (5, N.ns.take 4 ++ nmB x.p), stay w' hb _ (fun key' x' hx' he => ?_), fun h => (by cases h), fun k9 l9 h => (by cases h; exact hAn)⟩
    have := same key' x' hx' he
    subst this
    exact .inr (.inr (.inl ⟨hA, h0, rfl, rfl⟩))
  · refine (khandle_form kb d key node os x N vn vo ve w hKp.kp hik.is h2 h3 ht hA hkey hx h100 hxi.is (Nat.le_trans hxs.2 (by omega)) h0).mono ?_
    rintro e w' ⟨rfl, hb⟩
    refine ⟨v0, l, s, n, nr, nb, os, none, stay w' hb _ (fun key' x' hx' he => ?_), fun _ => rfl, fun k9 l9 h => (by cases h)⟩
    have := same key' x' hx' he
    subst this
    exact .inr (.inl ⟨hA, h0, rfl, rfl⟩)
/-- Two keepers that share no block. -/
structure Two (ba da ka : Nat) (va : Value) (bb db kb : Nat) (vb : Value) : Prop where
  b : ba ≠ bb
  d : da ≠ db
  k : ka ≠ kb
  v : Sep va vb
theorem Two.swap {ba da ka : Nat} {va : Value} {bb db kb : Nat} {vb : Value} (h : Two ba da ka va bb db kb vb) : Two bb db kb vb ba da ka va := ⟨h.b.symm, h.d.symm, h.k.symm, h.v.symm⟩
/-- The other keeper stays. -/
theorem Kp.other {W W' : World} {base ba da ka bb db kb nr nb nr2 nb2 : Nat} {va va' vb : Value} {S T : TS} {node node2 : Int} {os os2 : List KD} (hA : Kp W base ba va da ka S nr nb node os) (hB : Kp W base bb vb db kb T nr2 nb2 node2 os2) (m : Km ba da ka W W' va va') (ht : Two ba da ka va bb db kb vb) : Kp W' base bb vb db kb T nr2 nb2 node2 os2 ∧ Two ba da ka va' bb db kb vb := by
  have hlt := hB.ages
  have hb : W'.heap[bb]? = W.heap[bb]? := m.other bb hlt.2.2.2.1 (fun e => ht.b e.symm) (blk_ne hB.tp.blk hA.dy (by decide)) (blk_ne hB.tp.blk hA.kp (by decide)) (blk_own hA.tp.own hB.tp.blk (by decide))
  have hd : W'.heap[db]? = W.heap[db]? := m.other db hlt.2.2.2.2.1 (blk_ne hB.dy hA.tp.blk (by decide)) (fun e => ht.d e.symm) (blk_ne hB.dy hA.kp (by decide)) (blk_own hA.tp.own hB.dy (by decide))
  have hk : W'.heap[kb]? = W.heap[kb]? := m.other kb hlt.2.2.2.2.2.1 (blk_ne hB.kp hA.tp.blk (by decide)) (blk_ne hB.kp hA.dy (by decide)) (fun e => ht.k e.symm) (blk_own hA.tp.own hB.kp (by decide))
  refine ⟨⟨⟨hB.tp.ge, by unfold Blk; rw [hb]; exact hB.tp.blk, own_at hB.tp.own (fun g hg => m.other g (hB.tp.own.lt g hg).2 (fun e => blk_own hB.tp.own hA.tp.blk (by decide) (by rw [← e]; exact hg)) (fun e => blk_own hB.tp.own hA.dy (by decide) (by rw [← e]; exact hg)) (fun e => blk_own hB.tp.own hA.kp (by decide) (by rw [← e]; exact hg)) (fun e => ht.v g e hg)), hB.tp.sure, hB.tp.max, hB.tp.bo, hB.tp.br⟩, by unfold Blk; rw [hd]; exact hB.dy, by unfold Blk; rw [hk]; exact hB.kp, hB.len, fun r hr => ?_, hB.gd, hB.gk⟩, ⟨ht.b, ht.d, ht.k, fun g hg e => ?_⟩⟩
  · have h := hB.im r hr
    exact own_at h fun g hg => m.other g (h.lt g hg).2 (fun e => blk_own h hA.tp.blk (by decide) (by rw [← e]; exact hg)) (fun e => blk_own h hA.dy (by decide) (by rw [← e]; exact hg)) (fun e => blk_own h hA.kp (by decide) (by rw [← e]; exact hg)) (fun e => sep_ty h hA.tp.own (by decide) g hg e)
  · rcases m.next g hg with h | h
    · exact ht.v g h e
    · have := (hB.tp.own.lt g e).2; omega
end Go.Proofs.Ytlhamckpgijjmaa
namespace Go.Proofs.Ytlhamckpgijjmaa
open Go.ChangeShapes Go.WideShapes Go.ChangeAt Go.RowKit Go.Joins
set_option linter.unusedVariables false
set_option maxRecDepth 100000

/-- A note, and where its three rows lie. -/
structure NtD where
  N : Nt
  vn : Value
  vo : Value
  ve : Value
structure NtAt (W : World) (g o : Nat) (x : NtD) : Prop where
  c0 : W.cell? ⟨g, o, none⟩ = some (.int .i64 x.N.k)
  c1 : W.cell? ⟨g, o + 1, none⟩ = some (.int .i64 x.N.f)
  c2 : W.cell? ⟨g, o + 2, none⟩ = some (.int .i64 x.N.t)
  c3 : W.cell? ⟨g, o + 3, none⟩ = some x.vn
  c4 : W.cell? ⟨g, o + 4, none⟩ = some x.vo
  c5 : W.cell? ⟨g, o + 5, none⟩ = some x.ve
  ns : Is W x.vn x.N.ns
  os : SR 5 k64 W x.vo x.N.os
  es : SR 76 ek W x.ve x.N.es
  i64 : In64 x.N.ns
structure NtRow (W : World) (q : Option Addr) (n cap g off : Nat) (os : List NtD) : Prop where
  len : os.length = n
  fits : n ≤ cap
  max : cap ≤ 9223372036854775807
  ptr : 0 < n → q = some ⟨g, off, none⟩
  lt : 0 < n → g < W.heap.size
  row : ∀ j x, os[j]? = some x → NtAt W g (off + j * 6) x
section
variable {H : Type} {enc : TypeId × Value → H} {w : World} {base : Nat} {spare : Nat → Bool} {held : Bool}
set_option maxHeartbeats 1000000 in
theorem note12 {fuel : Nat} {cs' : List Value} {x : DataW H × List MemPlace} (h3 : cs'.length = 6) (h2 : DataW.trod enc Try.prog w base spare held fuel 35 cs' = some x) :
    ∃ (y : NtD) (q1 q2 q3 : Option Addr) (n1 n2 n3 c1 c2 c3 : Nat), cs' = [.int .i64 y.N.k, .int .i64 y.N.f, .int .i64 y.N.t, y.vn, y.vo, y.ve] ∧ Is w y.vn y.N.ns ∧ SR 5 k64 w y.vo y.N.os ∧ SR 76 ek w y.ve y.N.es ∧ In64 y.N.ns := by
  obtain ⟨xs, m', _, hxe, _, hxl, hxx⟩ := DataW.trod_struct Try.underlying35 h2
  have f0 := hxx 0 _ rfl
  have f1 := hxx 1 _ rfl
  have f2 := hxx 2 _ rfl
  have f3 := hxx 3 _ rfl
  have f4 := hxx 4 _ rfl
  have f5 := hxx 5 _ rfl
  have hsz : xs.length = 6 := hxl
  rw [List.getElem?_eq_getElem (by omega)] at f0 f1 f2 f3 f4 f5
  obtain ⟨e0, e1, e2, e3, e4, e5, rfl⟩ : ∃ e0 e1 e2 e3 e4 e5, cs' = [e0, e1, e2, e3, e4, e5] := by
    match cs', h3 with
    | [e0, e1, e2, e3, e4, e5], _ => exact ⟨e0, e1, e2, e3, e4, e5, rfl⟩
  obtain ⟨a0, rfl, -⟩ := i64_of (e := e0) f0
  obtain ⟨a1, rfl, -⟩ := i64_of (e := e1) f1
  obtain ⟨a2, rfl, -⟩ := i64_of (e := e2) f2
  obtain ⟨q3, g3, o3, n3, c3, l3, ee3, hl3, hk3, hm3, hp3, hg3, hc3⟩ := rows_of (n := 1) (D := 8) (fun _ => .i64) Try.underlying31 (by kernel_rfl) (by omega) (kinds_of (by kernel_rfl)) f3
  obtain rfl : e3 = .slice q3 n3 c3 := by have h9 : [e3] = [Value.slice q3 n3 c3] := ee3; simpa using h9
  obtain ⟨q4, g4, o4, n4, c4, l4, ee4, hl4, hk4, hm4, hp4, hg4, hc4⟩ := rows_of (n := 5) (D := 8) k64 Try.underlying32 (by kernel_rfl) (by omega) (kinds_of (by kernel_rfl)) f4
  obtain rfl : e4 = .slice q4 n4 c4 := by have h9 : [e4] = [Value.slice q4 n4 c4] := ee4; simpa using h9
  obtain ⟨q5, g5, o5, n5, c5, l5, ee5, hl5, hk5, hm5, hp5, hg5, hc5⟩ := rows_of (n := 76) (D := 8) ek Try.underlying33 (by kernel_rfl) (by omega) (kinds_of (by kernel_rfl)) f5
  obtain rfl : e5 = .slice q5 n5 c5 := by have h9 : [e5] = [Value.slice q5 n5 c5] := ee5; simpa using h9
  have hI := is_rows hl3 hk3 hm3 hp3 hg3 hc3
  exact ⟨⟨⟨a0, a1, a2, l3.map fun c => c 0, l4, l5⟩, _, _, _⟩, q3, q4, q5, n3, n4, n5, c3, c4, c5, rfl, hI.1, sr_rows hl4 hk4 hm4 hp4 hg4 hc4, sr_rows hl5 hk5 hm5 hp5 hg5 hc5, hI.2⟩
set_option maxHeartbeats 1000000 in
theorem notes12 {fuel : Nat} {cs : List Value} {x : DataW H × List MemPlace} (hf : DataW.trod enc Try.prog w base spare held fuel 22 cs = some x) :
    ∃ (q : Option Addr) (n cap g off : Nat) (os : List NtD), cs = [.slice q n cap] ∧ NtRow w q n cap g off os := by
  rcases Deep.open_slice Try.underlying22 hf with ⟨hcs, _⟩ | ⟨a', len, cap, m, n', D', Pl, hcs, hb, hl, hm, hmm, hx, hel⟩
  · exact ⟨none, 0, 0, 0, 0, [], hcs, rfl, by omega, by omega, fun h => absurd h (by omega), fun h => absurd h (by omega), fun j c hc => by simp at hc⟩
  · have hle : len ≤ m := by rw [hmm]; split <;> omega
    have key : ∀ j, j < len → ∃ x : NtD, w.cell? ((a'.add (j * 6)).add 0) = some (.int .i64 x.N.k) ∧ w.cell? ((a'.add (j * 6)).add 1) = some (.int .i64 x.N.f) ∧ w.cell? ((a'.add (j * 6)).add 2) = some (.int .i64 x.N.t) ∧ w.cell? ((a'.add (j * 6)).add 3) = some x.vn ∧ w.cell? ((a'.add (j * 6)).add 4) = some x.vo ∧ w.cell? ((a'.add (j * 6)).add 5) = some x.ve ∧ Is w x.vn x.N.ns ∧ SR 5 k64 w x.vo x.N.os ∧ SR 76 ek w x.ve x.N.es ∧ In64 x.N.ns := by
      intro j hj
      obtain ⟨cs', h1, h2⟩ := hel j (by omega)
      rw [show Try.prog.cellsOf 35 = 6 by kernel_rfl] at h1
      obtain ⟨_, h3, h4⟩ := World.cells?_some h1
      obtain ⟨y, q1, q2, q3, n1, n2, n3, c1, c2, c3, rfl, i1, i2, i3, i4⟩ := note12 h3 h2
      exact ⟨y, h4 0 (by omega), h4 1 (by omega), h4 2 (by omega), h4 3 (by omega), h4 4 (by omega), h4 5 (by omega), i1, i2, i3, i4⟩
    haveI : Inhabited NtD := ⟨⟨⟨0, 0, 0, [], [], []⟩, .nilIface, .nilIface, .nilIface⟩⟩
    obtain ⟨L, hL⟩ := Deep.choose_lt key
    have hspot : 0 < len → a'.spot = none := fun h0 => by
      have h1 := (hL 0 h0).1
      have := spot_of_cell h1
      rw [Nat.zero_mul] at this
      simpa [Addr.add] using this
    refine ⟨some a', len, cap, a'.block, a'.off, (List.range len).map L, hcs, ⟨by simp, hl, hm, fun h0 => ?_, fun h0 => ?_, fun j x hx => ?_⟩⟩
    · have hs := hspot h0
      obtain ⟨b, o, s⟩ := a'; cases hs; rfl
    · have := World.block_lt_of_cell? w _ (hL 0 h0).1
      simpa [Addr.add] using this
    · have hj : j < len := by have := (List.getElem?_eq_some_iff.1 hx).1; simpa using this
      have hxj : x = L j := by simp [hj] at hx; exact hx.symm
      subst hxj
      have hs := hspot (by omega)
      obtain ⟨h0_, h1_, h2_, h3_, h4_, h5_, s0_, s1_, s2_, s3_⟩ := hL j hj
      rw [add_plain _ hs, add_plain _ rfl] at h0_ h1_ h2_ h3_ h4_ h5_
      exact ⟨h0_, h1_, h2_, h3_, h4_, h5_, s0_, s1_, s2_, s3_⟩
theorem open_notes {r : Reach} {b0 : Nat} {v : Value} {d : DataW H} {p : List MemPlace} (hv : Value.okWide Try.prog w r b0 22 v) (h : DataW.Trod enc Try.prog w base spare held 22 v d p) (hz : ∀ n ∈ d.weights Try.prog 22, n ≤ reachBytes) :
    ∃ (q : Option Addr) (n cap g off : Nat) (os : List NtD), v = .slice q n cap ∧ NtRow w q n cap g off os := by
  obtain ⟨a, len, cap, rfl⟩ := okWide_slice Try.underlying22 hv
  obtain ⟨fuel, hf⟩ := h
  obtain ⟨q, n, c, g, off, os, e, hs⟩ := notes12 hf
  have e1 : (Value.slice a len cap) = .slice q n c := by simpa [Value.cells] using e
  exact ⟨q, n, c, g, off, os, e1, hs⟩
end
end Go.Proofs.Ytlhamckpgijjmaa
