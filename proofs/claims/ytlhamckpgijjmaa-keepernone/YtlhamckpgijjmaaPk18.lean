/-
  frame.Unwrap.
  Structs of numbers, and slices of them, in memory.
  Which notes are in form: note.isNode, shapeOf, fits.
-/
import Derived.Test.YtlhamckpgijjmaaPk06
import Derived.Test.YtlhamckpgijjmaaPk17
import Derived.Test.YtlhamckpgijjmaaPk04
import Derived.Deep.MidRow
import Derived.BigQuiet
namespace Go.Proofs.Ytlhamckpgijjmaa
open Go.RowKit
set_option linter.unusedVariables false

end Go.Proofs.Ytlhamckpgijjmaa
namespace Go.Proofs.Ytlhamckpgijjmaa
open Go.RowKit Go.Shelf
set_option linter.unusedVariables false

/-- The cells of a struct of numbers. -/
def AG (k : Nat) (ks : Nat → IntKind) (c : Nat → Int) : Array Value := ((List.range k).map fun i => Value.int (ks i) (c i)).toArray
def k64 : Nat → IntKind := fun _ => .i64
def ek (i : Nat) : IntKind := if i = 4 then .u64 else .i64
theorem AG_size (k : Nat) (ks : Nat → IntKind) (c : Nat → Int) : (AG k ks c).size = k := by simp [AG]
theorem AG_len (k : Nat) (ks : Nat → IntKind) (c : Nat → Int) : (AG k ks c).toList.length = k := by simp [AG]
theorem AG_at (k : Nat) (ks : Nat → IntKind) (c : Nat → Int) (i : Nat) (h : i < k) : (AG k ks c).toList[i]? = some (.int (ks i) (c i)) := by simp [AG, h]
theorem AG_congr {k : Nat} {ks : Nat → IntKind} {c d : Nat → Int} (h : ∀ i, i < k → c i = d i) : AG k ks c = AG k ks d := by
  unfold AG
  congr 1
  exact List.map_congr_left fun i hi => by rw [h i (List.mem_range.1 hi)]
theorem AG_one (k : Nat) (ks : Nat → IntKind) (c : Nat → Int) : ∀ u ∈ (AG k ks c).toList, u.oneCell' = true := by
  intro u hu
  simp [AG] at hu
  obtain ⟨i, _, rfl⟩ := hu
  rfl
abbrev EA (e : Nat → Int) : Array Value := AG 76 ek e
abbrev OA (o : Nat → Int) : Array Value := AG 5 k64 o

/-- A row of structs. -/
def StRow (k : Nat) (ks : Nat → IntKind) (W : World) (g off : Nat) (l : List (Nat → Int)) : Prop := ∀ j c, l[j]? = some c → W.rangeAt g (off + j * k) (AG k ks c).toList
/-- A slice of structs. -/
def SR (k : Nat) (ks : Nat → IntKind) (W : World) (v : Value) (l : List (Nat → Int)) : Prop := ∃ q cap g off, v = .slice q l.length cap ∧ l.length ≤ cap ∧ cap ≤ 9223372036854775807 ∧ (0 < l.length → q = some ⟨g, off, none⟩) ∧ (0 < l.length → g < W.heap.size) ∧ StRow k ks W g off l
theorem StRow.keep {k : Nat} {ks : Nat → IntKind} {W W' : World} {g off : Nat} {l : List (Nat → Int)} (h : StRow k ks W g off l) (hg : 0 < l.length → g < W.heap.size) (hb : Below W.heap.size W W') : StRow k ks W' g off l := by
  intro j c hj i v hv
  have hlt := hg (by have := (List.getElem?_eq_some_iff.1 hj).1; omega)
  exact (hb.cell (p := ⟨g, _, none⟩) hlt).trans (h j c hj i v hv)
theorem SR.keep {k : Nat} {ks : Nat → IntKind} {W W' : World} {v : Value} {l : List (Nat → Int)} (h : SR k ks W v l) (hb : Below W.heap.size W W') : SR k ks W' v l := by
  obtain ⟨q, cap, g, off, h1, h2, h3, h4, h5, h6⟩ := h
  exact ⟨q, cap, g, off, h1, h2, h3, h4, fun h => Nat.lt_of_lt_of_le (h5 h) hb.size, h6.keep h5 hb⟩
theorem SR.nil (k : Nat) (ks : Nat → IntKind) (W : World) : SR k ks W (.slice none 0 0) [] := ⟨none, 0, 0, 0, rfl, Nat.le_refl _, by omega, fun h => absurd h (by simp), fun h => absurd h (by simp), fun j c h => by simp at h⟩
theorem SR.congr {k : Nat} {ks : Nat → IntKind} {W : World} {v : Value} {l m : List (Nat → Int)} (h : SR k ks W v l) (he : EqL k l m) : SR k ks W v m := by
  obtain ⟨q, cap, g, off, h1, h2, h3, h4, h5, h6⟩ := h
  rw [he.1] at h1 h2 h4 h5
  refine ⟨q, cap, g, off, h1, h2, h3, h4, h5, fun j c hj => ?_⟩
  have hlt : j < l.length := by have := (List.getElem?_eq_some_iff.1 hj).1; rw [he.1]; exact this
  have := h6 j _ (List.getElem?_eq_getElem hlt)
  rwa [AG_congr (he.2 j _ c (List.getElem?_eq_getElem hlt) hj)] at this
def flatA (k : Nat) (ks : Nat → IntKind) (l : List (Nat → Int)) : List Value := l.flatMap fun c => (AG k ks c).toList
theorem flatA_len (k : Nat) (ks : Nat → IntKind) : ∀ l, (flatA k ks l).length = l.length * k
  | [] => by simp [flatA]
  | c :: l => by
    have := flatA_len k ks l
    unfold flatA at this ⊢
    rw [List.flatMap_cons, List.length_append, this, AG_len, List.length_cons, Nat.add_mul, Nat.one_mul, Nat.add_comm]
theorem flatA_append (k : Nat) (ks : Nat → IntKind) (l m : List (Nat → Int)) : flatA k ks l ++ flatA k ks m = flatA k ks (l ++ m) := by simp [flatA]
theorem flatA_one (k : Nat) (ks : Nat → IntKind) (l : List (Nat → Int)) : ∀ u ∈ flatA k ks l, u.oneCell' = true := by
  intro u hu
  obtain ⟨c, _, h⟩ := List.mem_flatMap.1 hu
  exact AG_one k ks c u h
theorem flatA_at (k : Nat) (ks : Nat → IntKind) : ∀ (l : List (Nat → Int)) (j : Nat) (c : Nat → Int), l[j]? = some c → ∀ i v, (AG k ks c).toList[i]? = some v → (flatA k ks l)[j * k + i]? = some v
  | [], j, c, h, _, _, _ => by simp at h
  | d :: l, 0, c, h, i, v, hv => by
    simp at h
    subst h
    have hlt := (List.getElem?_eq_some_iff.1 hv).1
    unfold flatA
    rw [List.flatMap_cons, Nat.zero_mul, Nat.zero_add, List.getElem?_append_left hlt, hv]
  | d :: l, j + 1, c, h, i, v, hv => by
    have := flatA_at k ks l j c (by simpa using h) i v hv
    unfold flatA at this ⊢
    rw [List.flatMap_cons, List.getElem?_append_right (by rw [AG_len, Nat.add_mul]; omega), AG_len, ← this]
    congr 1
    rw [Nat.add_mul]; omega
theorem flatA_div (k : Nat) (ks : Nat → IntKind) (hk : 0 < k) (l : List (Nat → Int)) (j : Nat) (u : Value) (h : (flatA k ks l)[j]? = some u) : ∃ c, l[j / k]? = some c ∧ (AG k ks c).toList[j % k]? = some u := by
  have hlt := (List.getElem?_eq_some_iff.1 h).1
  rw [flatA_len] at hlt
  have hj : j / k < l.length := Nat.div_lt_of_lt_mul (by rwa [Nat.mul_comm])
  refine ⟨_, List.getElem?_eq_getElem hj, ?_⟩
  have hm : j % k < k := Nat.mod_lt _ hk
  have := flatA_at k ks l (j / k) _ (List.getElem?_eq_getElem hj) (j % k) _ (AG_at k ks _ _ hm)
  rw [Nat.mul_comm, Nat.div_add_mod, h] at this
  rw [AG_at k ks _ _ hm, this]
/-- A slice of structs of the call's own. -/
def SO (e : TypeId) (k : Nat) (ks : Nat → IntKind) (W : World) (base : Nat) (v : Value) (l : List (Nat → Int)) : Prop := W.ownsRow base e k v l.length (flatA k ks l)
theorem SO.sr {e : TypeId} {k : Nat} {ks : Nat → IntKind} {W : World} {base : Nat} {v : Value} {l : List (Nat → Int)} (h : SO e k ks W base v l) (hk : 0 < k) : SR k ks W v l := by
  obtain ⟨h1, q, g, cap, h2, h3, h4, h5, h6, h7, h8, hc, h9⟩ := own_open h hk
  refine ⟨q, cap, g, 0, h2, h7, h8, h3, h4, fun j c hj i v hv => ?_⟩
  rw [Nat.zero_add]
  exact hc _ _ (flatA_at k ks l j c hj i v hv)
theorem so_of {e : TypeId} {k : Nat} {ks : Nat → IntKind} {W : World} {base n : Nat} {v : Value} {l : List (Nat → Int)} (h : W.ownsRow base e k v n (flatA k ks l)) (hk : 0 < k) : SO e k ks W base v l := by
  have := h.1
  rw [flatA_len] at this
  have hn : l.length = n := Nat.eq_of_mul_eq_mul_right hk this
  unfold SO
  rwa [hn]
theorem SO.keep {e : TypeId} {k : Nat} {ks : Nat → IntKind} {W W' : World} {base : Nat} {v : Value} {l : List (Nat → Int)} (h : SO e k ks W base v l) (hb : Below W.heap.size W W') : SO e k ks W' base v l := own_keep h hb
theorem SR.src {k : Nat} {ks : Nat → IntKind} {W : World} {v : Value} {l : List (Nat → Int)} (h : SR k ks W v l) (hk : 0 < k) : ∃ q cap, v = .slice q l.length cap ∧ (q = none → l.length = 0) ∧ (∀ ad, q = some ad → ∀ j u, (flatA k ks l)[j]? = some u → W.cell? (ad.add j) = some u) := by
  obtain ⟨q, cap, g, off, h1, h2, h3, h4, h5, h6⟩ := h
  refine ⟨q, cap, h1, fun hq => ?_, fun ad had j u hu => ?_⟩
  · by_cases h0 : 0 < l.length
    · have := h4 h0; rw [hq] at this; cases this
    · omega
  · obtain ⟨c, hc, hu'⟩ := flatA_div k ks hk l j u hu
    have h0 : 0 < l.length := Nat.lt_of_le_of_lt (Nat.zero_le _) (List.getElem?_eq_some_iff.1 hc).1
    have := h4 h0
    rw [had] at this
    cases this
    have := h6 _ c hc _ u hu'
    rw [Addr.add_mid]
    rwa [Nat.add_assoc, Nat.mul_comm, Nat.div_add_mod] at this

/-- A note in memory. -/
structure NV (W : World) (x : Value) (N : Nt) (vn vo ve : Value) : Prop where
  eq : x = .agg #[.int .i64 N.k, .int .i64 N.f, .int .i64 N.t, vn, vo, ve]
  ns : Is W vn N.ns
  os : SR 5 k64 W vo N.os
  es : SR 76 ek W ve N.es
theorem NV.keep {W W' : World} {x : Value} {N : Nt} {vn vo ve : Value} (h : NV W x N vn vo ve) (hb : Below W.heap.size W W') : NV W' x N vn vo ve := ⟨h.eq, h.ns.keep hb, h.os.keep hb, h.es.keep hb⟩

section
variable {ops : Array Oper} {rest : List Oper} {o : Oper} {a : Act} {w : World} {Q : Exit → Act → World → Prop}
theorem info_ent (e : Nat → Int) : (Try.prog.info? 97).map (·.size) = some (EA e).size := by rw [AG_size]; kernel_rfl
theorem zero_ent (w : World) : (zeroValue 97).run Try.prog w = .ok (.agg (EA zc)) w := by kernel_rfl
theorem ld_ent (hgd : o.guard = none) {x : Operand} (ho : o.op = .load 97 x) {b q : Nat} {c : Nat → Int} (hr : w.rangeAt b q (EA c).toList) (hx : a.eval x = .pointer (some ⟨b, q, none⟩))
    (h : wpList Try.prog ops Q rest (a.put o.dst (.agg (EA c))) w) : wpList Try.prog ops Q (o :: rest) a w := by
  refine wpList_load_mid hgd _ x ho b q hx _ _ hr Try.underlying97 rfl ?_ (by simpa using h)
  rw [info_ent c]; simp
theorem infoOp : (Try.prog.info? 86).map (fun i => (i.zero, i.size, i.bytes)) = some (some (.agg (OA zc)), 5, 40) := by kernel_rfl
theorem infoEnt : (Try.prog.info? 97).map (fun i => (i.zero, i.size, i.bytes)) = some (some (.agg (EA zc)), 76, 608) := by kernel_rfl
theorem al_ent (hgd : o.guard = none) (ho : o.op = .alloc 97)
    (h : ∀ W', W' = w.alloc (.cells (EA zc) 97) → Blk W' w.heap.size (EA zc) 97 → Below w.heap.size w W' → wpList Try.prog ops Q rest (a.put o.dst (.pointer (some ⟨w.heap.size, 0, none⟩))) W') : wpList Try.prog ops Q (o :: rest) a w :=
  al_blk hgd ho _ (zero_ent w) h
end
end Go.Proofs.Ytlhamckpgijjmaa
namespace Go.Proofs.Ytlhamckpgijjmaa
open Go.RowKit Go.Shelf
set_option linter.unusedVariables false

/-- A call that answers whether something holds. -/
def BIff (r : Ending) (P : Prop) : Prop := ∃ z : Bool, r = .returned (.bool z) ∧ (z = true ↔ P)
/-- What the notes of a Kind have. -/
def shp (k : Int) : Option (Int × Int × Int × Int × Int) :=
  if k = 1 ∨ k = 4 then some (4, 1, 0, 0, 0) else if k = 2 then some (7, 1, 32, 0, 0) else if k = 3 then some (4, 1, 32, 0, 0) else if k = 5 then some (7, 1, 0, 0, 0) else if k = 6 then some (1, 2, 12, 0, 0)
  else if k = 7 then some (2, 2, 12, 16, 0) else if k = 8 then some (6, 1, 0, 0, 16) else if k = 9 then some (4, 1, 0, 0, 0) else none
abbrev shV (a b c d e : Int) : Value := .agg #[.int .i64 a, .int .i64 b, .int .i64 c, .int .i64 d, .int .i64 e]

theorem isNode_any (n : Int) (w : World) : Calls Try.prog 58 #[.int .i64 n] w fun e w' => e = .returned (.bool (decide (0 ≤ n ∧ n ≤ 999))) ∧ w' = w := by
  go_enter Try.func58, Try.ntmps58
  by_cases h0 : 0 ≤ n
  · by_cases h1 : n ≤ 999
    · go_wp2_with fail
      go_ret
      simp [h0, h1]
    · go_wp2_with fail
      go_ret
      simp [h1]
  · go_wp2_with fail
    go_ret
    simp
    omega

theorem info_shape (a b c d e : Int) : (Try.prog.info? 125).map (·.size) = some (#[Value.int .i64 a, .int .i64 b, .int .i64 c, .int .i64 d, .int .i64 e]).size := by kernel_rfl
theorem shape_ok (k a b c d e : Int) (w : World) (h : shp k = some (a, b, c, d, e)) : Calls Try.prog 57 #[.int .i64 k] w fun r w' => r = .returned (.tuple #[shV a b c d e, .bool true]) ∧ Below w.heap.size w w' := by
  have hk : k = 1 ∨ k = 2 ∨ k = 3 ∨ k = 4 ∨ k = 5 ∨ k = 6 ∨ k = 7 ∨ k = 8 ∨ k = 9 := by
    refine Classical.byContradiction fun hn => ?_
    unfold shp at h
    rw [if_neg (by omega), if_neg (by omega), if_neg (by omega), if_neg (by omega), if_neg (by omega), if_neg (by omega), if_neg (by omega), if_neg (by omega)] at h
    cases h
  rcases hk with rfl | rfl | rfl | rfl | rfl | rfl | rfl | rfl | rfl <;>
    (simp [shp] at h
     obtain ⟨rfl, rfl, rfl, rfl, rfl⟩ := h
     go_enter Try.func57, Try.ntmps57
     go_wp2_with fail
     exact bodyPost_ret (results_c2 rfl _ _ _ 125 _ (0, 0) _ _ rfl rfl (Blk.new _ _ _) Try.underlying125 rfl (info_shape _ _ _ _ _)) rfl ⟨rfl, ab_alloc (Below.refl _ _) _⟩)
theorem shape_no (k : Int) (w : World) (h : shp k = none) : Calls Try.prog 57 #[.int .i64 k] w fun r w' => r = .returned (.tuple #[shV 0 0 0 0 0, .bool false]) ∧ Below w.heap.size w w' := by
  have hk : k ≠ 1 ∧ k ≠ 2 ∧ k ≠ 3 ∧ k ≠ 4 ∧ k ≠ 5 ∧ k ≠ 6 ∧ k ≠ 7 ∧ k ≠ 8 ∧ k ≠ 9 := by
    refine ⟨?_, ?_, ?_, ?_, ?_, ?_, ?_, ?_, ?_⟩ <;> (rintro rfl; simp [shp] at h)
  have e1 : (k == 1) = false := by simpa using hk.1
  have e2 : (k == 2) = false := by simpa using hk.2.1
  have e3 : (k == 3) = false := by simpa using hk.2.2.1
  have e4 : (k == 4) = false := by simpa using hk.2.2.2.1
  have e5 : (k == 5) = false := by simpa using hk.2.2.2.2.1
  have e6 : (k == 6) = false := by simpa using hk.2.2.2.2.2.1
  have e7 : (k == 7) = false := by simpa using hk.2.2.2.2.2.2.1
  have e8 : (k == 8) = false := by simpa using hk.2.2.2.2.2.2.2.1
  have e9 : (k == 9) = false := by simpa using hk.2.2.2.2.2.2.2.2
  clear hk h
  go_enter Try.func57, Try.ntmps57
  go_wp2_with fail
  exact bodyPost_ret (results_c2 rfl _ _ _ 125 _ (0, 0) _ _ rfl rfl (Blk.new _ _ _) Try.underlying125 rfl (info_shape _ _ _ _ _)) rfl ⟨rfl, ab_alloc (Below.refl _ _) _⟩

def FitS (a b c d e : Int) (n o p : Nat) : Prop := a ≤ (n : Int) ∧ ((n : Int) - a) % b = 0 ∧ ((n : Int) - a) / b ≤ c ∧ (o : Int) ≤ d ∧ (p : Int) ≤ e
theorem shp_fits (k : Int) (n o p : Nat) : FitK k n o p ↔ ∃ a b c d e, shp k = some (a, b, c, d, e) ∧ FitS a b c d e n o p := by
  constructor
  · intro h
    have hk := (fitK_le h)
    have : k = 1 ∨ k = 2 ∨ k = 3 ∨ k = 4 ∨ k = 5 ∨ k = 6 ∨ k = 7 ∨ k = 8 ∨ k = 9 := by omega
    rcases this with rfl | rfl | rfl | rfl | rfl | rfl | rfl | rfl | rfl <;> (refine ⟨_, _, _, _, _, rfl, ?_⟩; unfold FitK at h; unfold FitS; omega)
  · rintro ⟨a, b, c, d, e, h1, h2⟩
    by_cases hk : k = 1 ∨ k = 2 ∨ k = 3 ∨ k = 4 ∨ k = 5 ∨ k = 6 ∨ k = 7 ∨ k = 8 ∨ k = 9
    · rcases hk with rfl | rfl | rfl | rfl | rfl | rfl | rfl | rfl | rfl <;>
        (simp [shp] at h1
         obtain ⟨rfl, rfl, rfl, rfl, rfl⟩ := h1
         unfold FitS at h2
         unfold FitK
         omega)
    · unfold shp at h1
      rw [if_neg (by omega), if_neg (by omega), if_neg (by omega), if_neg (by omega), if_neg (by omega), if_neg (by omega), if_neg (by omega), if_neg (by omega)] at h1
      cases h1
theorem shp_two {k a b c d e : Int} (h : shp k = some (a, b, c, d, e)) : (b = 1 ∨ b = 2) ∧ 0 ≤ a ∧ a ≤ 7 ∧ 0 ≤ c ∧ c ≤ 32 := by
  have hk : k = 1 ∨ k = 2 ∨ k = 3 ∨ k = 4 ∨ k = 5 ∨ k = 6 ∨ k = 7 ∨ k = 8 ∨ k = 9 := by
    refine Classical.byContradiction fun hn => ?_
    unfold shp at h
    rw [if_neg (by omega), if_neg (by omega), if_neg (by omega), if_neg (by omega), if_neg (by omega), if_neg (by omega), if_neg (by omega), if_neg (by omega)] at h
    cases h
  rcases hk with rfl | rfl | rfl | rfl | rfl | rfl | rfl | rfl | rfl <;> (simp [shp] at h; omega)

set_option maxHeartbeats 1000000 in
theorem fits_any (a b c d e : Int) (k f t : Int) (qn qo qe : Option Addr) (n o p cn co cp : Nat) (w : World) (hb : b = 1 ∨ b = 2) (ha : 0 ≤ a ∧ a ≤ 7) (hn : n ≤ 9223372036854775807) :
    Calls Try.prog 59 #[shV a b c d e, .agg #[.int .i64 k, .int .i64 f, .int .i64 t, .slice qn n cn, .slice qo o co, .slice qe p cp]] w fun r w' => BIff r (FitS a b c d e n o p) ∧ Below w.heap.size w w' := by
  go_enter Try.func59, Try.ntmps59
  have hw : -9223372036854775808 ≤ (n : Int) - a ∧ (n : Int) - a ≤ 9223372036854775807 := by omega
  go_upto_region 2 with fail
  have HA : Hid (FitS a b c d e n o p ↔ 0 ≤ (n : Int) - a ∧ ((n : Int) - a) % b = 0 ∧ ((n : Int) - a) / b ≤ c ∧ (o : Int) ≤ d ∧ (p : Int) ≤ e) := by show _ ↔ _; unfold FitS; omega
  generalize (n : Int) - a = M at *
  by_cases c0 : 0 ≤ M
  · have hb0 : b ≠ 0 := by omega
    have hbb : (b == 0) = false := by simpa using hb0
    have q1 : M.tmod b = M % b := Int.tmod_eq_emod_of_nonneg c0
    have q2 : M.tdiv b = M / b := Int.tdiv_eq_ediv_of_nonneg c0
    have hq : -9223372036854775808 ≤ M / b ∧ M / b ≤ 9223372036854775807 := by rcases hb with rfl | rfl <;> omega
    have hqw : IntKind.i64.wrap (M / b) = M / b := by simp [IntKind.wrap, IntKind.signed, IntKind.bits]; omega
    by_cases c1 : M % b = 0
    · have e1 : (M % b == 0) = true := by simpa using c1
      by_cases c2 : M / b ≤ c
      · by_cases c3 : (o : Int) ≤ d
        · by_cases c4 : (p : Int) ≤ e
          · go_quiet (fail)
            go_wp2_with fail
            go_ret
            exact ⟨⟨_, rfl, by rw [HA.out]; simp [c0, c1, c2, c3, c4]⟩, ab_drewN (ab_alloc (ab_alloc (Below.refl _ _) _) _) _⟩
          · go_quiet (fail)
            go_wp2_with fail
            go_ret
            exact ⟨⟨_, rfl, by rw [HA.out]; exact ⟨fun h => (by simp at h), fun h => absurd h.2.2.2.2 (Int.not_le.2 c4)⟩⟩, ab_drewN (ab_alloc (ab_alloc (Below.refl _ _) _) _) _⟩
        · go_quiet (fail)
          go_wp2_with fail
          go_ret
          exact ⟨⟨_, rfl, by rw [HA.out]; exact ⟨fun h => (by simp at h), fun h => absurd h.2.2.2.1 (Int.not_le.2 c3)⟩⟩, ab_drewN (ab_alloc (ab_alloc (Below.refl _ _) _) _) _⟩
      · go_quiet (fail)
        go_wp2_with fail
        go_ret
        exact ⟨⟨_, rfl, by rw [HA.out]; exact ⟨fun h => (by simp at h), fun h => absurd h.2.2.1 (Int.not_le.2 c2)⟩⟩, ab_drewN (ab_alloc (ab_alloc (Below.refl _ _) _) _) _⟩
    · have e1 : (M % b == 0) = false := by simpa using c1
      go_quiet (fail)
      go_wp2_with fail
      go_ret
      exact ⟨⟨_, rfl, by rw [HA.out]; exact ⟨fun h => (by simp at h), fun h => absurd h.2.1 c1⟩⟩, ab_drewN (ab_alloc (ab_alloc (Below.refl _ _) _) _) _⟩
  · go_quiet (fail)
    go_wp2_with fail
    go_ret
    exact ⟨⟨_, rfl, by rw [HA.out]; exact ⟨fun h => (by simp at h), fun h => absurd h.1 (Int.not_le.2 c0)⟩⟩, ab_drewN (ab_alloc (ab_alloc (Below.refl _ _) _) _) _⟩
end Go.Proofs.Ytlhamckpgijjmaa
