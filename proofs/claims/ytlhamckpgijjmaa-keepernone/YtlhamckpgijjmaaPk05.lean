/-
  Slices of bytes in memory, and slices of such slices.
  frame's small functions: turn, unturn, read, spell, Sum; bytes.Clone.
  frame.number and frame.inside.
-/
import Derived.Test.YtlhamckpgijjmaaRows
import Derived.Test.YtlhamckpgijjmaaPk01
import Derived.Test.YtlhamckpgijjmaaPk04
import Derived.Laws.BytesArg
import Derived.Lib.Strings
import Derived.Laws.BitsAllLaws
namespace Go.Proofs.Ytlhamckpgijjmaa
open Go.RowKit
set_option linter.unusedVariables false

def bys (l : List Nat) : List Value := l.map fun x => Value.int .u8 ((x : Nat) : Int)
theorem bys_len (l : List Nat) : (bys l).length = l.length := by simp [bys]
theorem bys_append (l m : List Nat) : bys l ++ bys m = bys (l ++ m) := by simp [bys]
theorem bys_one (l : List Nat) : ∀ u ∈ bys l, u.oneCell' = true := by
  intro u hu
  obtain ⟨x, _, rfl⟩ := List.mem_map.1 hu
  rfl
theorem bys_at (l : List Nat) (j : Nat) : (bys l)[j]? = l[j]?.map fun x => Value.int .u8 ((x : Nat) : Int) := by simp [bys]
theorem bys_set (l : List Nat) (j x : Nat) : (bys l).set j (.int .u8 ((x : Nat) : Int)) = bys (l.set j x) := by simp [bys, List.map_set]
theorem infoByte : (Try.prog.info? 5).map (fun i => (i.zero, i.size, i.bytes)) = some (some (.int .u8 0), 1, 1) := by kernel_rfl
theorem infoBytes : (Try.prog.info? 59).map (fun i => (i.zero, i.size, i.bytes)) = some (some (.slice none 0 0), 1, 24) := by kernel_rfl

/-- A row of bytes in memory. -/
def BRow (W : World) (g off : Nat) (l : List Nat) : Prop := ∀ j x, l[j]? = some x → W.cell? ⟨g, off + j, none⟩ = some (.int .u8 ((x : Nat) : Int))
theorem brow_keep {W W' : World} {g off : Nat} {l : List Nat} (h : BRow W g off l) (hg : g < W.heap.size) (hb : Below W.heap.size W W') : BRow W' g off l :=
  fun j x hx => (hb.cell (p := ⟨g, off + j, none⟩) hg).trans (h j x hx)
theorem brow_drop {W : World} {g off : Nat} {l : List Nat} (h : BRow W g off l) (k : Nat) : BRow W g (off + k) (l.drop k) := by
  intro j x hx
  rw [List.getElem?_drop] at hx
  rw [Nat.add_assoc]
  exact h (k + j) x hx
theorem brow_take {W : World} {g off : Nat} {l : List Nat} (h : BRow W g off l) (k : Nat) : BRow W g off (l.take k) := by
  intro j x hx
  rw [List.getElem?_take] at hx
  split at hx
  · exact h j x hx
  · cases hx
/-- A slice of these bytes, in memory that W has. -/
def Sl (W : World) (v : Value) (l : List Nat) : Prop := ∃ q cap, v = .slice q l.length cap ∧ l.length ≤ cap ∧ cap ≤ maxLen ∧ (0 < l.length → ∃ g off, q = some ⟨g, off, none⟩ ∧ g < W.heap.size ∧ BRow W g off l)
theorem Sl.keep {W W' : World} {v : Value} {l : List Nat} (h : Sl W v l) (hb : Below W.heap.size W W') : Sl W' v l := by
  obtain ⟨q, cap, rfl, h1, h2, h3⟩ := h
  refine ⟨q, cap, rfl, h1, h2, fun h0 => ?_⟩
  obtain ⟨g, off, rfl, hg, hr⟩ := h3 h0
  exact ⟨g, off, rfl, Nat.lt_of_lt_of_le hg hb.size, brow_keep hr hg hb⟩
theorem Sl.open {W : World} {v : Value} {l : List Nat} (h : Sl W v l) : ∃ q cap g off, v = .slice q l.length cap ∧ l.length ≤ cap ∧ cap ≤ 9223372036854775807 ∧ (0 < l.length → q = some ⟨g, off, none⟩) ∧ (0 < l.length → g < W.heap.size) ∧ BRow W g off l := by
  obtain ⟨q, cap, rfl, h1, h2, h3⟩ := h
  by_cases h0 : 0 < l.length
  · obtain ⟨g, off, rfl, hg, hr⟩ := h3 h0
    exact ⟨_, cap, g, off, rfl, h1, h2, fun _ => rfl, fun _ => hg, hr⟩
  · have : l = [] := List.eq_nil_of_length_eq_zero (by omega)
    subst this
    exact ⟨q, cap, 0, 0, rfl, h1, h2, fun h => absurd h h0, fun h => absurd h h0, fun j x hx => by simp at hx⟩
theorem Sl.len {W : World} {q : Option Addr} {n cap : Nat} {l : List Nat} (h : Sl W (.slice q n cap) l) : l.length = n ∧ n ≤ cap ∧ cap ≤ 9223372036854775807 := by
  obtain ⟨q', cap', e, h1, h2, _⟩ := h
  cases e
  exact ⟨rfl, h1, h2⟩
theorem sl_nil (W : World) : Sl W (.slice none 0 0) [] := ⟨none, 0, rfl, Nat.le_refl _, by unfold maxLen; omega, fun h => absurd h (by simp)⟩
theorem sl_of {W : World} {q : Option Addr} {n cap g off : Nat} {l : List Nat} (hn : l.length = n) (hc : n ≤ cap) (hm : cap ≤ maxLen) (hp : 0 < n → q = some ⟨g, off, none⟩) (hg : 0 < n → g < W.heap.size) (hr : BRow W g off l) : Sl W (.slice q n cap) l := by
  subst hn
  exact ⟨q, cap, rfl, hc, hm, fun h0 => ⟨g, off, hp h0, hg h0, hr⟩⟩
theorem own_sl {W : World} {base n : Nat} {v : Value} {l : List Nat} (h : W.ownsRow base 5 1 v n (bys l)) : l.length = n ∧ Sl W v l := by
  obtain ⟨h1, q, g, cap, rfl, hp, hg, _, _, hc, hm, hr, _⟩ := own_open h (by omega)
  rw [bys_len, Nat.mul_one] at h1
  exact ⟨h1, sl_of h1 hc hm hp hg (fun j x hx => by rw [Nat.zero_add]; exact hr j _ (by rw [bys_at, hx]; rfl))⟩
/-- What append asks of its source. -/
theorem Sl.src {W : World} {v : Value} {l : List Nat} (h : Sl W v l) : ∃ q cap, v = .slice q l.length cap ∧ (q = none → l.length = 0) ∧ (∀ ad, q = some ad → ∀ j u, (bys l)[j]? = some u → W.cell? (ad.add j) = some u) := by
  obtain ⟨q, cap, rfl, h1, h2, h3⟩ := h
  refine ⟨q, cap, rfl, fun hq => ?_, fun ad had j u hu => ?_⟩
  · by_cases h0 : 0 < l.length
    · obtain ⟨g, off, e, _⟩ := h3 h0
      rw [hq] at e; cases e
    · omega
  · rw [bys_at] at hu
    cases hx : l[j]? with
    | none => rw [hx] at hu; simp at hu
    | some x =>
      rw [hx] at hu
      obtain ⟨g, off, e, _, hr⟩ := h3 (by have := (List.getElem?_eq_some_iff.1 hx).1; omega)
      rw [had] at e
      cases e
      rw [Addr.add_mid, hr j x hx]
      simpa using hu
/-- The string of bytes. -/
def strB (l : List Nat) : ByteArray := strOfNums (l.map fun (x : Nat) => ((x : Nat) : Int))
theorem strB_inj {l m : List Nat} (hl : Byt l) (hm : Byt m) (h : strB l = strB m) : l = m := by
  have h1 := congrArg (fun s => s.data.toList) h
  simp only [strB, strOfNums_data, List.map_map] at h1
  have h2 := congrArg (List.map UInt8.toNat) h1
  simp only [List.map_map] at h2
  have key : ∀ l : List Nat, Byt l → l.map (UInt8.toNat ∘ ((fun n : Int => UInt8.ofNat n.toNat) ∘ fun (x : Nat) => ((x : Nat) : Int))) = l := by
    intro l hl
    induction l with
    | nil => rfl
    | cons b r ih =>
      rw [List.map_cons, ih (fun x hx => hl x (List.mem_cons_of_mem _ hx))]
      congr 1
      have := hl b (List.mem_cons_self ..)
      simp
      omega
  rwa [key l hl, key m hm] at h2
theorem strB_iff {l m : List Nat} (hl : Byt l) (hm : Byt m) : strB l = strB m ↔ l = m := ⟨strB_inj hl hm, fun h => by rw [h]⟩
theorem strB_app (l m : List Nat) : strB l ++ strB m = strB (l ++ m) := by
  apply ByteArray.ext
  simp [strB, strOfNums]
theorem sl_str {W : World} {v : Value} {l : List Nat} (h : Sl W v l) : (convert 59 9 v).run Try.prog W = .ok (.string (strB l)) W := by
  obtain ⟨q, cap, rfl, h1, h2, h3⟩ := h
  by_cases h0 : 0 < l.length
  · obtain ⟨g, off, rfl, hg, hr⟩ := h3 h0
    refine run_convert_bytes_arg W 59 5 Try.underlying59 Try.underlying5 g off l.length cap _ (by simp) (fun i hi => ?_) 9 Try.underlying9
    rw [hr i l[i] (List.getElem?_eq_getElem hi)]
    simp [List.getD, List.getElem?_eq_getElem hi]
  · have : l = [] := List.eq_nil_of_length_eq_zero (by omega)
    subst this
    cases q with
    | none => exact run_convert_bytes_nil W 59 5 Try.underlying59 Try.underlying5 _ _ 9 Try.underlying9
    | some ad =>
      rw [run_convert_bytes_string W 59 9 5 _ _ _ Try.underlying59 Try.underlying5 Try.underlying9]
      rfl

/-- A row of values in memory. -/
def VRow (W : World) (g off : Nat) (vs : List Value) : Prop := ∀ j x, vs[j]? = some x → W.cell? ⟨g, off + j, none⟩ = some x
/-- A slice of slices of bytes. -/
structure Ls (W : World) (v : Value) (vs : List Value) (ls : List (List Nat)) : Prop where
  len : vs.length = ls.length
  row : ∃ q cap, v = .slice q vs.length cap ∧ vs.length ≤ cap ∧ cap ≤ maxLen ∧ (0 < vs.length → ∃ g off, q = some ⟨g, off, none⟩ ∧ g < W.heap.size ∧ VRow W g off vs)
  each : ∀ (j : Nat) (x : Value) (l : List Nat), vs[j]? = some x → ls[j]? = some l → Sl W x l
theorem Ls.keep {W W' : World} {v : Value} {vs : List Value} {ls : List (List Nat)} (h : Ls W v vs ls) (hb : Below W.heap.size W W') : Ls W' v vs ls := by
  obtain ⟨h1, ⟨q, cap, rfl, h2, h3, h4⟩, h5⟩ := h
  refine ⟨h1, ⟨q, cap, rfl, h2, h3, fun h0 => ?_⟩, fun j x l hx hl => (h5 j x l hx hl).keep hb⟩
  obtain ⟨g, off, rfl, hg, hr⟩ := h4 h0
  exact ⟨g, off, rfl, Nat.lt_of_lt_of_le hg hb.size, fun j x hx => (hb.cell (p := ⟨g, off + j, none⟩) hg).trans (hr j x hx)⟩
theorem Ls.open {W : World} {v : Value} {vs : List Value} {ls : List (List Nat)} (h : Ls W v vs ls) : ∃ q cap g off, v = .slice q ls.length cap ∧ ls.length ≤ cap ∧ cap ≤ 9223372036854775807 ∧ (0 < ls.length → q = some ⟨g, off, none⟩) ∧ (0 < ls.length → g < W.heap.size) ∧ VRow W g off vs := by
  obtain ⟨h1, ⟨q, cap, rfl, h2, h3, h4⟩, h5⟩ := h
  rw [h1] at h2 h4 ⊢
  by_cases h0 : 0 < ls.length
  · obtain ⟨g, off, rfl, hg, hr⟩ := h4 h0
    exact ⟨_, cap, g, off, rfl, h2, h3, fun _ => rfl, fun _ => hg, hr⟩
  · have : vs = [] := List.eq_nil_of_length_eq_zero (by omega)
    subst this
    exact ⟨q, cap, 0, 0, rfl, h2, h3, fun h => absurd h h0, fun h => absurd h h0, fun j x hx => by simp at hx⟩
theorem ls_nil (W : World) : Ls W (.slice none 0 0) [] [] := ⟨rfl, ⟨none, 0, rfl, Nat.le_refl _, by unfold maxLen; omega, fun h => absurd h (by simp)⟩, fun j x l h => by simp at h⟩
/-- Strings that differ, as the walk compares them. -/
theorem strB_ne {a b : List Nat} (h : strB a ≠ strB b) : ((strB a).toList == (strB b).toList) = false := by
  apply beq_false_of_ne
  intro e
  rw [Lib.toList_data, Lib.toList_data] at e
  exact h (ByteArray.ext (Array.toList_inj.1 e))
theorem strB_len (l : List Nat) : (strB l).size = l.length := by
  simp [strB, strOfNums, ByteArray.size]
theorem Sl.slice {W : World} {v : Value} {l : List Nat} (h : Sl W v l) : ∃ q n c, v = .slice q n c := by
  obtain ⟨q, cap, e, -⟩ := h
  exact ⟨q, _, cap, e⟩
theorem cv_run {o : Oper} {w : World} {ρ : Operand → Value} {x : Operand} (ho : o.op = .convert 59 9 x) {v : Value} {l : List Nat} (hx : ρ x = v) (h : Sl w v l) : (execOp ρ o).run Try.prog w = .ok (.value (.string (strB l))) w := by
  unfold execOp
  simp only [ho, hx, Sem.run_bind, sl_str h, Result.andThen_ok, Sem.run_pure]
end Go.Proofs.Ytlhamckpgijjmaa
namespace Go.Proofs.Ytlhamckpgijjmaa
open Go.RowKit
set_option linter.unusedVariables false

theorem i64_xor0 (x : Int) (h0 : -9223372036854775808 ≤ x) (h1 : x ≤ 9223372036854775807) : bits .xor .i64 x 0 = x := by
  show IntKind.i64.wrap ((BitVec.ofInt 64 x ^^^ BitVec.ofInt 64 0).toNat : Int) = _
  rw [show BitVec.ofInt 64 0 = 0#64 from by decide, BitVec.xor_zero, BitVec.toNat_ofInt]
  simp [IntKind.wrap, IntKind.bits, IntKind.signed]
  omega
theorem i64_xor1 (x : Int) (h0 : -9223372036854775808 ≤ x) (h1 : x ≤ 9223372036854775807) : bits .xor .i64 x (-1) = -1 - x := by
  show IntKind.i64.wrap ((BitVec.ofInt 64 x ^^^ BitVec.ofInt 64 (-1)).toNat : Int) = _
  rw [show BitVec.ofInt 64 (-1) = BitVec.allOnes 64 from by decide, BitVec.xor_allOnes, BitVec.toNat_not, BitVec.toNat_ofInt]
  simp [IntKind.wrap, IntKind.bits, IntKind.signed]
  omega
theorem turned (n : Int) (h0 : -9223372036854775808 ≤ n) (h1 : n ≤ 9223372036854775807) : IntKind.u64.wrap (bits .xor .i64 (wrap64 (n * 2)) (n / 9223372036854775808)) = ((zig n : Nat) : Int) := by
  have hw : -9223372036854775808 ≤ wrap64 (n * 2) ∧ wrap64 (n * 2) ≤ 9223372036854775807 := by unfold wrap64; omega
  unfold zig
  by_cases c : n < 0
  · have e : n / 9223372036854775808 = -1 := by omega
    rw [e, i64_xor1 _ hw.1 hw.2, if_pos c, IntKind.wrap_u64]
    unfold wrap64; omega
  · have e : n / 9223372036854775808 = 0 := by omega
    rw [e, i64_xor0 _ hw.1 hw.2, if_neg c, IntKind.wrap_u64]
    unfold wrap64; omega
theorem unturned (u : Nat) (h : u < 18446744073709551616) : bits .xor .i64 ((u : Int) / 2) (wrap64 (-wrap64 (bits .and .u64 (u : Int) 1))) = unz u := by
  have e : bits .and .u64 (u : Int) 1 = ((u % 2 : Nat) : Int) := by
    rw [← nat_mask1]
    exact u64_and_nat u 1 h (by omega)
  rw [e]
  unfold unz
  rcases Nat.mod_two_eq_zero_or_one u with c | c
  · rw [c, if_neg (by omega), show wrap64 (-wrap64 ((0 : Nat) : Int)) = 0 from by unfold wrap64; omega, i64_xor0 _ (by omega) (by omega)]
    omega
  · rw [c, if_pos rfl, show wrap64 (-wrap64 ((1 : Nat) : Int)) = -1 from by unfold wrap64; omega, i64_xor1 _ (by omega) (by omega)]
    omega
theorem turn_any (n : Int) (w : World) (h0 : -9223372036854775808 ≤ n) (h1 : n ≤ 9223372036854775807) :
    Calls Try.prog 77 #[.int .i64 n] w fun e w' => e = .returned (.int .u64 ((zig n : Nat) : Int)) ∧ w' = w := by
  go_enter Try.func77, Try.ntmps77
  go_wp2_with fail
  go_ret
  exact ⟨ret_int (turned n h0 h1), rfl⟩
theorem unturn_any (u : Nat) (w : World) (h : u < 18446744073709551616) :
    Calls Try.prog 70 #[.int .u64 ((u : Nat) : Int)] w fun e w' => e = .returned (.int .i64 (unz u)) ∧ w' = w := by
  go_enter Try.func70, Try.ntmps70
  go_wp2_with fail
  go_ret
  exact ⟨ret_int (unturned u h), rfl⟩
theorem read_step (l : List Nat) (k x : Nat) (hk : k < 8) (hb : Byt l) (hx : l[k]? = some x) : bits .or .u64 ((val (l.take k) : Nat) : Int) (IntKind.u64.wrap (((x : Nat) : Int) * 2 ^ (8 * k))) = ((val (l.take (k + 1)) : Nat) : Int) := by
  have hxb := hb.at hx
  have hkl : k < l.length := (List.getElem?_eq_some_iff.1 hx).1
  have hlen : (l.take k).length = k := by rw [List.length_take]; omega
  have hv := val_lt (l.take k) (hb.take k)
  rw [hlen, show (256 : Nat) = 2 ^ 8 from rfl, ← Nat.pow_mul] at hv
  have h56 : 2 ^ (8 * k) ≤ 2 ^ 56 := Nat.pow_le_pow_right (by decide) (by omega)
  have e1 : (((x : Nat) : Int) * 2 ^ (8 * k)) = ((x * 2 ^ (8 * k) : Nat) : Int) := by rw [Int.natCast_mul, Int.natCast_pow]; rfl
  have hlt : x * 2 ^ (8 * k) < 18446744073709551616 := by
    have : x * 2 ^ (8 * k) ≤ 255 * 2 ^ 56 := Nat.mul_le_mul (by omega) h56
    omega
  rw [e1, IntKind.wrap_u64, Int.emod_eq_of_lt (by omega) (by omega), u64_or_nat _ _ (by omega) hlt, Nat.or_comm, nat_join (8 * k) _ _ (Nat.mul_mod_left ..) hv]
  congr 1
  rw [List.take_add_one, hx, Option.toList_some, val_snoc, hlen, show (256 : Nat) = 2 ^ 8 from rfl, ← Nat.pow_mul]
  omega
theorem read_any (v : Value) (l : List Nat) (w : World) (hv : Sl w v l) (hb : Byt l) (h8 : l.length ≤ 8) :
    Calls Try.prog 67 #[v] w fun e w' => e = .returned (.int .u64 ((val l : Nat) : Int)) ∧ w' = w := by
  obtain ⟨q, cap, g, off, rfl, hc, hm, hp, hg, hr⟩ := hv.open
  clear hv
  generalize hn : l.length = n at *
  go_enter Try.func67, Try.ntmps67
  go_wp2_with fail
  go_loopw [3, 7] (fun s i wr => ∃ k : Nat, k ≤ n ∧ i = .int .i64 (k : Int) ∧ s = .int .u64 ((val (l.take k) : Nat) : Int) ∧ wr = w) (fun _ i _ => n - (intOf i).toNat)
  case atStart => exact ⟨0, by omega, rfl, rfl, rfl⟩
  case round =>
    obtain ⟨k, hk, rfl, rfl, rfl⟩ := hrel
    by_cases c : k = n
    · subst c
      rw [List.take_of_length_le (by omega)]
      clear hp hg hr hb
      go_wp2_with fail
      go_ret
      exact ⟨rfl, rfl⟩
    · obtain ⟨x, hx⟩ : ∃ x, l[k]? = some x := ⟨l[k], List.getElem?_eq_getElem (by omega)⟩
      obtain rfl := hp (by omega)
      have d := hr k x hx
      have hxb := hb.at hx
      have hki : (k : Int) < (n : Int) := by omega
      have hkn : k < n := by omega
      have HS : Hid (bits .or .u64 ((val (l.take k) : Nat) : Int) (IntKind.u64.wrap (((x : Nat) : Int) * 2 ^ (8 * k))) = ((val (l.take (k + 1)) : Nat) : Int)) := read_step l k x (by omega) hb hx
      clear hr hp hg hb hx
      go_wp2_with fail
      refine ⟨⟨k + 1, by omega, rfl, by rw [HS.out], trivial⟩, by simp only [intOf]; omega⟩

section
variable {ops : Array Oper} {rest : List Oper} {o : Oper} {a : Act} {w : World} {Q : Exit → Act → World → Prop}
/-- A slice of bytes, just made. -/
theorem own_newB (w : World) (xs : List Nat) (n : Nat) (hn : xs.length = n) (hm : n ≤ maxLen) (base : Nat) (hb : base ≤ w.heap.size) : (w.alloc (.cells (bys xs).toArray 5)).ownsRow base 5 1 (.slice (some ⟨w.heap.size, 0, none⟩) n n) n (bys xs) := by
  refine ⟨by rw [bys_len, hn, Nat.mul_one], .inr ⟨w.heap.size, n, (bys xs).toArray, rfl, hb, ?_, Nat.le_refl _, hm, ?_, ?_⟩⟩
  · show (w.heap.push _)[w.heap.size]? = _; simp
  · simp [bys_len, hn]
  · rw [Nat.mul_one, ← hn, ← bys_len xs]; simp
theorem bsb0 (w : World) : (Instr.buildSlice 59 0 #[]).run Try.prog w = .ok (.slice (some ⟨w.heap.size, 0, none⟩) 0 0) (w.alloc (.cells (bys []).toArray 5)) := by kernel_rfl
theorem bsb1 (a : Nat) (w : World) : (Instr.buildSlice 59 1 #[(0, .int .u8 ((a : Nat) : Int))]).run Try.prog w = .ok (.slice (some ⟨w.heap.size, 0, none⟩) 1 1) (w.alloc (.cells (bys [a]).toArray 5)) := by kernel_rfl
theorem bsb2 (a b : Nat) (w : World) : (Instr.buildSlice 59 2 #[(0, .int .u8 ((a : Nat) : Int)), (1, .int .u8 ((b : Nat) : Int))]).run Try.prog w = .ok (.slice (some ⟨w.heap.size, 0, none⟩) 2 2) (w.alloc (.cells (bys [a, b]).toArray 5)) := by kernel_rfl
theorem bsb4 (a b c d : Nat) (w : World) : (Instr.buildSlice 59 4 #[(0, .int .u8 ((a : Nat) : Int)), (1, .int .u8 ((b : Nat) : Int)), (2, .int .u8 ((c : Nat) : Int)), (3, .int .u8 ((d : Nat) : Int))]).run Try.prog w = .ok (.slice (some ⟨w.heap.size, 0, none⟩) 4 4) (w.alloc (.cells (bys [a, b, c, d]).toArray 5)) := by kernel_rfl
theorem bs_byW {K : Act → World → Prop} (d : Option Tmp) (hd : o.dst = d) {n : Nat} {parts : Array (Nat × Operand)} (ho : o.op = .buildSlice 59 n parts) (xs : List Nat) {vs : Array (Nat × Value)} (hl : parts.map (fun (i, x) => (i, a.eval x)) = vs)
    (hrun : (Instr.buildSlice 59 n vs).run Try.prog w = .ok (.slice (some ⟨w.heap.size, 0, none⟩) n n) (w.alloc (.cells (bys xs).toArray 5))) (hn : xs.length = n) (hm : n ≤ maxLen)
    (h : ∀ W', W'.ownsRow w.heap.size 5 1 (.slice (some ⟨w.heap.size, 0, none⟩) n n) n (bys xs) → Below w.heap.size w W' → W'.heap.size = w.heap.size + 1 → K (a.put d (.slice (some ⟨w.heap.size, 0, none⟩) n n)) W') : o.wp Try.prog a w K Q := by
  subst hd
  unfold Oper.wp execOp
  simp only [ho, Sem.run_bind, hl, hrun, Result.andThen_ok]
  exact h _ (own_newB w xs n hn hm _ (Nat.le_refl _)) ((Below.refl _ _).alloc (Nat.le_refl _) _) (by simp)
theorem bs_by (hw : Region.wanted o (yielded ops a.tmps) = true) {n : Nat} {parts : Array (Nat × Operand)} (ho : o.op = .buildSlice 59 n parts) (xs : List Nat) {vs : Array (Nat × Value)} (hl : parts.map (fun (i, x) => (i, a.eval x)) = vs)
    (hrun : (Instr.buildSlice 59 n vs).run Try.prog w = .ok (.slice (some ⟨w.heap.size, 0, none⟩) n n) (w.alloc (.cells (bys xs).toArray 5))) (hn : xs.length = n) (hm : n ≤ maxLen)
    (h : ∀ W', W'.ownsRow w.heap.size 5 1 (.slice (some ⟨w.heap.size, 0, none⟩) n n) n (bys xs) → Below w.heap.size w W' → W'.heap.size = w.heap.size + 1 → wpList Try.prog ops Q rest (a.put o.dst (.slice (some ⟨w.heap.size, 0, none⟩) n n)) W') : wpList Try.prog ops Q (o :: rest) a w := by
  unfold wpList
  rw [if_pos hw]
  left
  exact bs_byW o.dst rfl ho xs hl hrun hn hm h
/-- append of bytes onto an own slice: its run. -/
theorem app_runZ (A : World) (ty : TypeId) {v vx : Value} {n k : Nat} {l m : List Nat} (hown : w.ownsRow A.heap.size 5 1 v n (bys l)) (hsl : Sl w vx m) (hm : m.length = k) (h63 : n + k ≤ 140737488355328) (hA : Below A.heap.size A w) :
    ∃ v' w', (Builtin.append_ #[59, 59] ty #[v, vx]).run Try.prog w = .ok v' w' ∧ w'.ownsRow A.heap.size 5 1 v' (n + k) (bys (l ++ m)) ∧ (v' = .slice none 0 0 ↔ v = .slice none 0 0 ∧ k = 0) ∧ Below A.heap.size A w' ∧ w.grownBy w' v.ownBlock ∧ (v'.ownBlock = v.ownBlock ∨ v'.ownBlock = some w.heap.size) := by
  obtain ⟨i, hi, hz0, hz1, hz2⟩ := info_parts infoByte
  subst hm
  obtain ⟨q, cap, rfl, hq, hsrc⟩ := hsl.src
  cases q with
  | none =>
    have h0 := hq rfl
    have hm0 : m = [] := List.eq_nil_of_length_eq_zero h0
    subst hm0
    exact ⟨v, w, append_none (P := Try.prog) w A.heap.size 59 ty 5 i 1 cap Try.underlying59 hi v n (bys l) hown, by simpa using hown, by simp, hA, ⟨rfl, rfl, rfl, Nat.le_refl _, fun _ _ _ => rfl⟩, .inl rfl⟩
  | some ad =>
    obtain ⟨v', w', hr, h2, h3, h4, h5⟩ := run_append_own_at (P := Try.prog) w A.heap.size 59 ty 5 i _ 1 1 Try.underlying59 hi hz0 hz1 hz2 rfl (by omega) v n (bys l) hown ad m.length cap (bys m) (by rw [bys_len, Nat.mul_one]) (hsrc ad rfl) (bys_one m) (by unfold maxLen; omega) (by omega) hA.size
    refine ⟨v', w', hr, by rw [← bys_append]; exact h2, h4, ?_, h3, h5⟩
    refine hA.grown h3 hA.size (fun r hr => ?_)
    rcases hown.2 with ⟨rfl, _⟩ | ⟨g', cap', cur', rfl, hbg, _⟩
    · cases hr
    · cases hr; exact hbg
/-- append of bytes onto an own slice: its run. -/
theorem app_run (A : World) (ty : TypeId) {v vx : Value} {n k : Nat} {l m : List Nat} (hown : w.ownsRow A.heap.size 5 1 v n (bys l)) (hsl : Sl w vx m) (hm : m.length = k) (h63 : n + k ≤ 1000000) (hA : Below A.heap.size A w) :
    ∃ v' w', (Builtin.append_ #[59, 59] ty #[v, vx]).run Try.prog w = .ok v' w' ∧ w'.ownsRow A.heap.size 5 1 v' (n + k) (bys (l ++ m)) ∧ (v' = .slice none 0 0 ↔ v = .slice none 0 0 ∧ k = 0) ∧ Below A.heap.size A w' ∧ w.grownBy w' v.ownBlock ∧ (v'.ownBlock = v.ownBlock ∨ v'.ownBlock = some w.heap.size) :=
  app_runZ A ty hown hsl hm (Nat.le_trans h63 (by omega)) hA
theorem app_byZW {K : Act → World → Prop} (A : World) (d : Option Tmp) (hd : o.dst = d) {s x : Operand} (ho : o.op = .call { callee := .builtin .append, args := #[s, x], argTypes := #[59, 59] })
    {v vx : Value} {n k : Nat} {l m : List Nat} (hs : a.eval s = v) (hown : w.ownsRow A.heap.size 5 1 v n (bys l)) (hx : a.eval x = vx) (hsl : Sl w vx m) (hm : m.length = k) (h63 : n + k ≤ 140737488355328) (hA : Below A.heap.size A w)
    (h : ∀ v' w', w'.ownsRow A.heap.size 5 1 v' (n + k) (bys (l ++ m)) → (v' = .slice none 0 0 ↔ v = .slice none 0 0 ∧ k = 0) → Below A.heap.size A w' → w.grownBy w' v.ownBlock → (v'.ownBlock = v.ownBlock ∨ v'.ownBlock = some w.heap.size) → K (a.put d v') w') : o.wp Try.prog a w K Q := by
  subst hd
  obtain ⟨v', w', hr, h1, h2, h3, h4, h5⟩ := app_runZ A o.type hown hsl hm h63 hA
  unfold Oper.wp execOp
  simp only [ho, resolve, invoke, builtin, Sem.run_bind, Sem.run_pure, Result.andThen_ok, List.map_toArray, List.map_cons, List.map_nil, hs, hx, hr]
  exact h v' w' h1 h2 h3 h4 h5
theorem app_byW {K : Act → World → Prop} (A : World) (d : Option Tmp) (hd : o.dst = d) {s x : Operand} (ho : o.op = .call { callee := .builtin .append, args := #[s, x], argTypes := #[59, 59] })
    {v vx : Value} {n k : Nat} {l m : List Nat} (hs : a.eval s = v) (hown : w.ownsRow A.heap.size 5 1 v n (bys l)) (hx : a.eval x = vx) (hsl : Sl w vx m) (hm : m.length = k) (h63 : n + k ≤ 1000000) (hA : Below A.heap.size A w)
    (h : ∀ v' w', w'.ownsRow A.heap.size 5 1 v' (n + k) (bys (l ++ m)) → (v' = .slice none 0 0 ↔ v = .slice none 0 0 ∧ k = 0) → Below A.heap.size A w' → w.grownBy w' v.ownBlock → (v'.ownBlock = v.ownBlock ∨ v'.ownBlock = some w.heap.size) → K (a.put d v') w') : o.wp Try.prog a w K Q := by
  subst hd
  obtain ⟨v', w', hr, h1, h2, h3, h4, h5⟩ := app_run A o.type hown hsl hm h63 hA
  unfold Oper.wp execOp
  simp only [ho, resolve, invoke, builtin, Sem.run_bind, Sem.run_pure, Result.andThen_ok, List.map_toArray, List.map_cons, List.map_nil, hs, hx, hr]
  exact h v' w' h1 h2 h3 h4 h5
theorem app_byZ (A : World) (hw : Region.wanted o (yielded ops a.tmps) = true) {s x : Operand} (ho : o.op = .call { callee := .builtin .append, args := #[s, x], argTypes := #[59, 59] })
    {v vx : Value} {n k : Nat} {l m : List Nat} (hs : a.eval s = v) (hown : w.ownsRow A.heap.size 5 1 v n (bys l)) (hx : a.eval x = vx) (hsl : Sl w vx m) (hm : m.length = k) (h63 : n + k ≤ 140737488355328) (hA : Below A.heap.size A w)
    (h : ∀ v' w', w'.ownsRow A.heap.size 5 1 v' (n + k) (bys (l ++ m)) → (v' = .slice none 0 0 ↔ v = .slice none 0 0 ∧ k = 0) → Below A.heap.size A w' → w.grownBy w' v.ownBlock → (v'.ownBlock = v.ownBlock ∨ v'.ownBlock = some w.heap.size) → wpList Try.prog ops Q rest (a.put o.dst v') w') : wpList Try.prog ops Q (o :: rest) a w := by
  unfold wpList
  rw [if_pos hw]
  left
  exact app_byZW A o.dst rfl ho hs hown hx hsl hm h63 hA h
theorem app_by (A : World) (hw : Region.wanted o (yielded ops a.tmps) = true) {s x : Operand} (ho : o.op = .call { callee := .builtin .append, args := #[s, x], argTypes := #[59, 59] })
    {v vx : Value} {n k : Nat} {l m : List Nat} (hs : a.eval s = v) (hown : w.ownsRow A.heap.size 5 1 v n (bys l)) (hx : a.eval x = vx) (hsl : Sl w vx m) (hm : m.length = k) (h63 : n + k ≤ 1000000) (hA : Below A.heap.size A w)
    (h : ∀ v' w', w'.ownsRow A.heap.size 5 1 v' (n + k) (bys (l ++ m)) → (v' = .slice none 0 0 ↔ v = .slice none 0 0 ∧ k = 0) → Below A.heap.size A w' → w.grownBy w' v.ownBlock → (v'.ownBlock = v.ownBlock ∨ v'.ownBlock = some w.heap.size) → wpList Try.prog ops Q rest (a.put o.dst v') w') : wpList Try.prog ops Q (o :: rest) a w := by
  unfold wpList
  rw [if_pos hw]
  left
  exact app_byW A o.dst rfl ho hs hown hx hsl hm h63 hA h
end
theorem spell_step (u k : Nat) (hu : u < 18446744073709551616) : ((u : Nat) : Int) / 2 ^ (8 * k) % 256 = ((u / 256 ^ k % 256 : Nat) : Int) := by
  rw [Int.natCast_emod, Int.natCast_ediv, Int.natCast_pow, show (256 : Nat) = 2 ^ 8 from rfl, Int.natCast_pow, ← Int.pow_mul]
  rfl

set_option maxHeartbeats 400000 in
theorem spell_any (A : World) (v : Value) (l : List Nat) (n u s : Nat) (w : World) (hA : Below A.heap.size A w) (hown : w.ownsRow A.heap.size 5 1 v n (bys l)) (hn : n ≤ 500000) (hs : s ≤ 8) (hu : u < 18446744073709551616) :
    Calls Try.prog 73 #[v, .int .u64 ((u : Nat) : Int), .int .i64 ((s : Nat) : Int)] w fun e w' => ∃ v', e = .returned v' ∧ w'.ownsRow A.heap.size 5 1 v' (n + s) (bys (l ++ spl u s)) ∧ Below A.heap.size A w' := by
  go_enter Try.func73, Try.ntmps73
  go_wp2_with fail
  go_loopw [0, 9] (fun x i wr => ∃ k : Nat, k ≤ s ∧ i = .int .i64 (k : Int) ∧ wr.ownsRow A.heap.size 5 1 x (n + k) (bys (l ++ spl u k)) ∧ Below A.heap.size A wr) (fun _ i _ => s - (intOf i).toNat)
  case atStart => exact ⟨0, by omega, rfl, by simpa [spl] using hown, hA⟩
  case round =>
    clear hown hA
    obtain ⟨k, hk, rfl, hown, hA⟩ := hrel
    by_cases c : k = s
    · subst c
      go_wp2_with fail
      go_ret
      exact ⟨_, rfl, hown, hA⟩
    · have hki : (k : Int) < (s : Int) := by omega
      have hkn : k < s := by omega
      have HS : Hid (((u : Nat) : Int) / 2 ^ (8 * k) % 256 = ((u / 256 ^ k % 256 : Nat) : Int)) := spell_step u k hu
      go_wp2_with (first
        | (refine bs_by rfl rfl [u / 256 ^ k % 256] (vs := #[(0, .int .u8 ((u / 256 ^ k % 256 : Nat) : Int))]) (by rw [← HS.out]; simp only [List.map_toArray, List.map_cons, List.map_nil]; rfl) (bsb1 _ _) rfl (by decide) ?_; intro W1 hN b1 z1)
        | (at_builtin; refine app_by A rfl rfl rfl (own_keep hown b1) rfl (own_sl hN).2 rfl (by show n + k + 1 ≤ _; omega) (ab_trans hA b1) ?_; intro v' W2 hown2 hnil2 hA2 hgr2 hat2))
      refine ⟨⟨k + 1, by omega, rfl, ?_, hA2⟩, by simp only [intOf]; omega⟩
      rw [List.append_assoc] at hown2
      exact hown2

theorem eq_nil (q : Option Addr) (n c : Nat) (w : World) : (binOp .eql 59 (.slice q n c) (.slice none 0 0)).run Try.prog w = .ok (.bool q.isNone) w := by
  cases q <;> kernel_rfl
set_option maxHeartbeats 400000 in
theorem clone_any (v : Value) (l : List Nat) (w : World) (hv : Sl w v l) (hn : l.length ≤ 1000000) :
    Calls Try.prog 50 #[v] w fun e w' => ∃ v', e = .returned v' ∧ w'.ownsRow w.heap.size 5 1 v' l.length (bys l) ∧ Below w.heap.size w w' := by
  obtain ⟨q, cap, g, off, rfl, hc, hm, hp, hg, hr⟩ := hv.open
  cases q with
  | none =>
    have h0 : ¬ 0 < l.length := fun h => by have := hp h; cases this
    have : l = [] := List.eq_nil_of_length_eq_zero (by omega)
    subst this
    clear hv hr hp hg
    have he := eq_nil none 0 cap w
    go_enter Try.func50, Try.ntmps50
    go_wp2_with fail
    go_ret
    exact ⟨_, rfl, World.ownsRow_nil w _ _ _, Below.refl _ _⟩
  | some ad =>
    clear hr hp hg
    generalize hl : l.length = n at *
    have he := eq_nil (some ad) n cap w
    go_enter Try.func50, Try.ntmps50
    go_wp2_with (first
        | (refine bs_by rfl rfl [] (vs := #[]) (by simp) (bsb0 _) rfl (by decide) ?_; intro W1 hN b1 z1)
        | (at_builtin; refine app_by w rfl rfl rfl hN rfl (hv.keep b1) hl (by omega) b1 ?_; intro v' W2 hown2 hnil2 hA2 hgr2 hat2))
    go_ret
    exact ⟨_, rfl, by simpa using hown2, hA2⟩
theorem sum_step (s x : Nat) (hs : s < 4294967296) (hx : x < 256) : bits .xor .u32 ((s : Nat) : Int) ((x : Nat) : Int) * 16777619 % 4294967296 = ((stp s x : Nat) : Int) := by
  rw [u32_xor_nat s x hs (by omega), stp]
  omega
theorem flat_take (ls : List (List Nat)) (k : Nat) (l : List Nat) (h : ls[k]? = some l) : (ls.take (k + 1)).flatten = (ls.take k).flatten ++ l := by
  rw [List.take_add_one, h, Option.toList_some, List.flatten_append]; simp

set_option maxHeartbeats 400000 in
theorem sum_any (v : Value) (vs : List Value) (ls : List (List Nat)) (w : World) (hv : Ls w v vs ls) (hb : ∀ l ∈ ls, Byt l) :
    Calls Try.prog 68 #[v] w fun e w' => e = .returned (.int .u32 ((sm ls.flatten : Nat) : Int)) ∧ w' = w := by
  obtain ⟨q, cap, g, off, rfl, hc, hm, hp, hg, hr⟩ := hv.open
  obtain ⟨hlen, -, hE⟩ := hv
  generalize hn : ls.length = n at *
  go_enter Try.func68, Try.ntmps68
  go_wp2_with fail
  go_loopw [3, 10] (fun s i wr => ∃ k : Nat, k ≤ n ∧ i = .int .i64 (k : Int) ∧ s = .int .u32 ((sm (ls.take k).flatten : Nat) : Int) ∧ wr = w) (fun _ i _ => n - (intOf i).toNat)
  case atStart => exact ⟨0, by omega, rfl, rfl, rfl⟩
  case round =>
    obtain ⟨k, hk, rfl, rfl, rfl⟩ := hrel
    by_cases c : k = n
    · subst c
      rw [List.take_of_length_le (by omega)]
      clear hp hg hr hb hE
      go_wp2_with fail
      go_ret
      exact ⟨rfl, rfl⟩
    · obtain ⟨x, hx⟩ : ∃ x, vs[k]? = some x := ⟨vs[k], List.getElem?_eq_getElem (by omega)⟩
      obtain ⟨l, hl⟩ : ∃ l, ls[k]? = some l := ⟨ls[k], List.getElem?_eq_getElem (by omega)⟩
      obtain rfl := hp (by omega)
      have d := hr k x hx
      obtain ⟨q2, cap2, g2, off2, rfl, hc2, hm2, hp2, hg2, hr2⟩ := (hE k x l hx hl).open
      have hbl := hb l (List.mem_of_getElem? hl)
      have hki : (k : Int) < (n : Int) := by omega
      have hkn : k < n := by omega
      have HF : Hid ((ls.take (k + 1)).flatten = (ls.take k).flatten ++ l) := flat_take ls k l hl
      clear hr hp hg hb hx hE hl
      generalize hn2 : l.length = n2 at *
      go_wp2_with fail
      go_loopw [3, 16] (fun s i wr' => ∃ j : Nat, j ≤ n2 ∧ i = .int .i64 (j : Int) ∧ s = .int .u32 ((sm ((ls.take k).flatten ++ l.take j) : Nat) : Int) ∧ wr' = wr) (fun _ i _ => n2 - (intOf i).toNat)
      case atStart => exact ⟨0, by omega, rfl, by simp, rfl⟩
      case round =>
        obtain ⟨j, hj, rfl, rfl, rfl⟩ := hrel
        by_cases c2 : j = n2
        · subst c2
          have ht : l.take j = l := List.take_of_length_le (by omega)
          rw [ht, ← HF.out]
          clear ht
          clear hp2 hg2 hr2 hbl
          go_wp2_with fail
          exact ⟨⟨k + 1, by omega, rfl, rfl, trivial⟩, by simp only [intOf]; omega⟩
        · obtain ⟨x, hx⟩ : ∃ x, l[j]? = some x := ⟨l[j], List.getElem?_eq_getElem (by omega)⟩
          obtain rfl := hp2 (by omega)
          have d2 := hr2 j x hx
          have hxb := hbl.at hx
          have hji : (j : Int) < (n2 : Int) := by omega
          have hjn : j < n2 := by omega
          have HS : Hid (bits .xor .u32 ((sm ((ls.take k).flatten ++ l.take j) : Nat) : Int) ((x : Nat) : Int) * 16777619 % 4294967296 = ((sm ((ls.take k).flatten ++ l.take (j + 1)) : Nat) : Int)) := by
            show _ = _
            rw [sum_step _ _ (sm_lt _) hxb, List.take_add_one, hx, Option.toList_some, ← List.append_assoc]
            unfold sm
            rw [smF_snoc]
          clear hr2 hp2 hg2 hbl hx
          go_wp2_with fail
          exact ⟨⟨j + 1, by omega, rfl, by rw [HS.out], trivial⟩, by simp only [intOf]; omega⟩
end Go.Proofs.Ytlhamckpgijjmaa
namespace Go.Proofs.Ytlhamckpgijjmaa
open Go.RowKit
set_option linter.unusedVariables false

theorem getD_at {l : List Nat} {j : Nat} (h : j < l.length) : l[j]? = some (l.getD j 0) := by
  rw [List.getD_eq_getElem?_getD, List.getElem?_eq_getElem h]; rfl
/-- A part of a slice. -/
theorem Sl.sub {W : World} {q : Option Addr} {n cap : Nat} {l : List Nat} (h : Sl W (.slice q n cap) l) {i j sc : Nat} {v : Value} (hij : i ≤ j) (hjn : j ≤ n) (hsc : sc ≤ cap) (hjc : j ≤ sc) (hv : v = sliced q i j sc 1) : Sl W v ((l.drop i).take (j - i)) := by
  obtain ⟨q', cap', e, h1, h2, h3⟩ := h
  cases e
  have hl : ((l.drop i).take (j - i)).length = j - i := by rw [List.length_take, List.length_drop]; omega
  subst hv
  unfold sliced
  by_cases c : sc = i
  · rw [if_pos c]
    refine ⟨q, sc - i, by rw [hl], by omega, by unfold maxLen at *; omega, fun h0 => ?_⟩
    rw [hl] at h0
    omega
  · rw [if_neg c]
    refine ⟨_, sc - i, by rw [hl], by omega, by unfold maxLen at *; omega, fun h0 => ?_⟩
    rw [hl] at h0
    obtain ⟨g, off, rfl, hg, hr⟩ := h3 (by omega)
    refine ⟨g, off + i, by rw [Option.map_some, Addr.add_mid, Nat.mul_one], hg, brow_take (brow_drop hr i) _⟩
theorem sizeB (w : World) : (sizeOf (Try.prog.elem 59)).run Try.prog w = .ok 1 w := by kernel_rfl
theorem sizeB' (w : World) : (sizeOf 5).run Try.prog w = .ok 1 w := by kernel_rfl
theorem eltB : Try.prog.underlying 59 = some (.slice (Try.prog.elem 59)) := by kernel_rfl
section
variable {ops : Array Oper} {rest : List Oper} {o : Oper} {a : Act} {w : World} {Q : Exit → Act → World → Prop}
theorem slb_lh_run {ρ : Operand → Value} {x y z : Operand} (ho : o.op = .slice 59 x (some y) (some z) none) {q : Option Addr} {n cap i j : Nat} {I J : Int} {ki kj : IntKind}
    (hx : ρ x = .slice q n cap) (hy : ρ y = .int ki I) (hz : ρ z = .int kj J) (hI : I = (i : Int)) (hJ : J = (j : Int)) (h1 : i ≤ j) (h2 : j ≤ cap) : (execOp ρ o).run Try.prog w = .ok (.value (sliced q i j cap 1)) w := by
  subst hI; subst hJ
  unfold execOp
  simp only [ho, hx, hy, hz, Option.map_some, Option.map_none, Sem.run_bind, run_sliceAt_slice w 59 _ _ _ _ eltB, run_slice_lh w 59 q n cap eltB _ _ (i : Int) (j : Int) (by omega) (by omega) (by omega), sizeB, Result.andThen_ok, Sem.run_pure, Int.toNat_natCast]
theorem slb_l_run {ρ : Operand → Value} {x y : Operand} (ho : o.op = .slice 59 x (some y) none none) {q : Option Addr} {n cap i : Nat} {I : Int} {ki : IntKind}
    (hx : ρ x = .slice q n cap) (hy : ρ y = .int ki I) (hI : I = (i : Int)) (h1 : i ≤ n) (h2 : n ≤ cap) : (execOp ρ o).run Try.prog w = .ok (.value (sliced q i n cap 1)) w := by
  subst hI
  unfold execOp
  simp only [ho, hx, hy, Option.map_some, Option.map_none, Sem.run_bind, run_sliceAt_slice w 59 _ _ _ _ eltB, run_slice_l w 59 q n cap eltB _ (i : Int) (by omega) (by omega), sizeB, Result.andThen_ok, Sem.run_pure, Int.toNat_natCast]
theorem slb_h_run {ρ : Operand → Value} {x z : Operand} (ho : o.op = .slice 59 x none (some z) none) {q : Option Addr} {n cap j : Nat} {J : Int} {kj : IntKind}
    (hx : ρ x = .slice q n cap) (hz : ρ z = .int kj J) (hJ : J = (j : Int)) (h2 : j ≤ cap) : (execOp ρ o).run Try.prog w = .ok (.value (sliced q 0 j cap 1)) w := by
  subst hJ
  unfold execOp
  simp only [ho, hx, hz, Option.map_some, Option.map_none, Sem.run_bind, run_sliceAt_slice w 59 _ _ _ _ eltB, run_slice_h w 59 q n cap eltB _ (j : Int) (by omega) (by omega), sizeB, Result.andThen_ok, Sem.run_pure, Int.toNat_natCast]
end
theorem sliced_form (q : Option Addr) (i j m : Nat) : ∃ q', sliced q i j m 1 = .slice q' (j - i) (m - i) := by
  unfold sliced; exact ⟨_, rfl⟩

section
variable {ops : Array Oper} {rest : List Oper} {o : Oper} {a : Act} {w : World} {Q : Exit → Act → World → Prop}
/-- 'b[i:j]' of bytes. -/
theorem slb_lh (hw : Region.wanted o (yielded ops a.tmps) = true) {x y z : Operand} (ho : o.op = .slice 59 x (some y) (some z) none) {q : Option Addr} {n cap : Nat} {I J : Int} {ki kj : IntKind} {l : List Nat} (i j : Nat)
    (hx : a.eval x = .slice q n cap) (hy : a.eval y = .int ki I) (hz : a.eval z = .int kj J) (hI : I = (i : Int)) (hJ : J = (j : Int)) (h1 : i ≤ j) (h2 : j ≤ n) (hsl : Sl w (.slice q n cap) l)
    (hK : ∀ q', Sl w (.slice q' (j - i) (cap - i)) ((l.drop i).take (j - i)) → wpList Try.prog ops Q rest (a.put o.dst (.slice q' (j - i) (cap - i))) w) : wpList Try.prog ops Q (o :: rest) a w := by
  have hc := hsl.len
  obtain ⟨q', e⟩ := sliced_form q i j cap
  have hr := slb_lh_run (w := w) ho hx hy hz hI hJ h1 (by omega)
  rw [e] at hr
  exact valS hw _ hr (hK q' (hsl.sub h1 h2 (Nat.le_refl _) (by omega) e.symm))
/-- 'b[i:]' of bytes. -/
theorem slb_l (hw : Region.wanted o (yielded ops a.tmps) = true) {x y : Operand} (ho : o.op = .slice 59 x (some y) none none) {q : Option Addr} {n cap : Nat} {I : Int} {ki : IntKind} {l : List Nat} (i : Nat)
    (hx : a.eval x = .slice q n cap) (hy : a.eval y = .int ki I) (hI : I = (i : Int)) (h1 : i ≤ n) (hsl : Sl w (.slice q n cap) l)
    (hK : ∀ q', Sl w (.slice q' (n - i) (cap - i)) (l.drop i) → wpList Try.prog ops Q rest (a.put o.dst (.slice q' (n - i) (cap - i))) w) : wpList Try.prog ops Q (o :: rest) a w := by
  have hc := hsl.len
  obtain ⟨q', e⟩ := sliced_form q i n cap
  have hr := slb_l_run (w := w) ho hx hy hI h1 hc.2.1
  rw [e] at hr
  refine valS hw _ hr (hK q' ?_)
  have := hsl.sub h1 (Nat.le_refl _) (Nat.le_refl _) hc.2.1 e.symm
  rwa [List.take_of_length_le (by rw [List.length_drop]; omega)] at this
/-- 'b[:j]' of bytes. -/
theorem slb_h (hw : Region.wanted o (yielded ops a.tmps) = true) {x z : Operand} (ho : o.op = .slice 59 x none (some z) none) {q : Option Addr} {n cap : Nat} {J : Int} {kj : IntKind} {l : List Nat} (j : Nat)
    (hx : a.eval x = .slice q n cap) (hz : a.eval z = .int kj J) (hJ : J = (j : Int)) (h2 : j ≤ n) (hsl : Sl w (.slice q n cap) l)
    (hK : ∀ q', Sl w (.slice q' j cap) (l.take j) → wpList Try.prog ops Q rest (a.put o.dst (.slice q' j cap)) w) : wpList Try.prog ops Q (o :: rest) a w := by
  have hc := hsl.len
  obtain ⟨q', e⟩ := sliced_form q 0 j cap
  have hr := slb_h_run (w := w) ho hx hz hJ (by omega)
  rw [e] at hr
  exact valS hw _ hr (hK q' (hsl.sub (Nat.zero_le _) h2 (Nat.le_refl _) (by omega) e.symm))
end

set_option maxHeartbeats 400000 in
theorem number_no (v : Value) (l : List Nat) (w : World) (hv : Sl w v l) (hb : Byt l) (hno : nOK l = false) :
    Calls Try.prog 53 #[v] w fun e w' => e = .returned (.tuple #[.int .i64 0, .int .i64 0, .bool false]) ∧ w' = w := by
  have hno' : ¬ (nOK l = true) := by simp [hno]
  rw [nOK_iff] at hno'
  obtain ⟨q, cap, g, off, rfl, hc, hm, hp, hg, hr⟩ := hv.open
  by_cases h0 : 0 < l.length
  · obtain rfl := hp h0
    have d0 := hr 0 _ (getD_at h0)
    have hx0 := hb.getD 0
    generalize hn : l.length = n at *
    generalize hcc : l.getD 0 0 = c at *
    have e0 : ((n : Int) == 0) = false := by simp; omega
    rw [Nat.add_zero] at d0
    by_cases h8 : c ≤ 8
    · by_cases hcn : c < n
      · have hz : c ≠ 0 ∧ l.getD c 0 = 0 := by
          refine ⟨fun e => hno' ⟨h0, h8, hcn, .inl e⟩, ?_⟩
          by_cases e : l.getD c 0 = 0
          · exact e
          · exact absurd ⟨h0, h8, hcn, .inr e⟩ hno'
        have dc := hr c _ (getD_at (by omega))
        rw [hz.2] at dc
        obtain ⟨hz1, -⟩ := hz
        clear hr hp hg hb hno hno' hcc
        go_enter Try.func53, Try.ntmps53
        go_wp2_with fail
        go_ret3
        exact ⟨rfl, rfl⟩
      · clear hr hp hg hb hno hno' hcc
        go_enter Try.func53, Try.ntmps53
        go_wp2_with fail
        go_ret3
        exact ⟨rfl, rfl⟩
    · clear hr hp hg hb hno hno' hcc
      go_enter Try.func53, Try.ntmps53
      go_wp2_with fail
      go_ret3
      exact ⟨rfl, rfl⟩
  · have e : l.length = 0 := by omega
    rw [e] at *
    clear hr hp hg hb hno hno' h0
    go_enter Try.func53, Try.ntmps53
    go_wp2_with fail
    go_ret3
    exact ⟨rfl, rfl⟩

set_option maxHeartbeats 400000 in
theorem number_ok (v : Value) (l : List Nat) (w : World) (hv : Sl w v l) (hb : Byt l) (hok : nOK l = true) :
    Calls Try.prog 53 #[v] w fun e w' => e = .returned (.tuple #[.int .i64 (nV l), .int .i64 ((nS l : Nat) : Int), .bool true]) ∧ w' = w := by
  obtain ⟨h0, h8, hcn, hz⟩ := (nOK_iff l).1 hok
  have HL : Hid (val (nL l) < 18446744073709551616) := nVal_lt hb h8
  obtain ⟨q, cap, g, off, rfl, hc, hm, hp, hg, hr⟩ := hv.open
  obtain rfl := hp h0
  have d0 := hr 0 _ (getD_at h0)
  have dc := hr _ _ (getD_at hcn)
  have hx0 := hb.getD 0
  have hxc := hb.getD (l.getD 0 0)
  have HV : Hid (nV l = unz (val (nL l)) ∧ nL l = (l.drop 1).take (l.getD 0 0) ∧ nS l = 1 + l.getD 0 0) := ⟨rfl, rfl, rfl⟩
  have HB : Hid (Byt ((l.drop 1).take (l.getD 0 0))) := (hb.drop 1).take _
  have HN : Hid (((l.drop 1).take (l.getD 0 0)).length = l.getD 0 0) := nL_len hcn
  rw [HV.out.1, HV.out.2.2]
  generalize hn : l.length = n at *
  generalize hcc : l.getD 0 0 = c at *
  generalize hcz : l.getD c 0 = z at *
  have e0 : ((n : Int) == 0) = false := by simp; omega
  rw [Nat.add_zero] at d0
  clear hr hp hg hok hcz hb
  by_cases hc0 : c = 0
  · subst hc0
    go_enter Try.func53, Try.ntmps53
    go_wp2_with (first
      | (refine slb_lh rfl rfl 1 1 rfl rfl rfl rfl rfl (by omega) (by omega) hv ?_; intro q' hs)
      | (go_at_call 67; refine (read_any _ _ _ hs HB.out (by rw [HN.out]; omega)).mono ?_; rintro e W2 ⟨rfl, rfl⟩; rw [← HV.out.2.1])
      | (go_at_call 70; refine (unturn_any _ _ HL.out).mono ?_; rintro e W2 ⟨rfl, rfl⟩))
    go_ret3
    exact ⟨rfl, rfl⟩
  · have hz' : z ≠ 0 := by rcases hz with h | h; exact absurd h hc0; exact h
    have hz2 : ((z : Int) == 0) = false := by simp; omega
    go_enter Try.func53, Try.ntmps53
    go_wp2_with (first
      | (refine slb_lh rfl rfl 1 (1 + c) rfl rfl rfl rfl (by omega) (by omega) (by omega) hv ?_; intro q' hs; rw [Nat.add_sub_cancel_left] at hs)
      | (go_at_call 67; refine (read_any _ _ _ hs HB.out (by rw [HN.out]; omega)).mono ?_; rintro e W2 ⟨rfl, rfl⟩; rw [← HV.out.2.1])
      | (go_at_call 70; refine (unturn_any _ _ HL.out).mono ?_; rintro e W2 ⟨rfl, rfl⟩))
    go_ret3
    exact ⟨rfl, rfl⟩

/-- A slice of one slice of bytes, just made. -/
theorem bsl1 (q : Option Addr) (n c : Nat) (w : World) : (Instr.buildSlice 65 1 #[(0, .slice q n c)]).run Try.prog w = .ok (.slice (some ⟨w.heap.size, 0, none⟩) 1 1) (w.alloc (.cells #[.slice q n c] 59)) := by kernel_rfl
theorem bsl2 (q : Option Addr) (n c : Nat) (q2 : Option Addr) (n2 c2 : Nat) (w : World) : (Instr.buildSlice 65 2 #[(0, .slice q n c), (1, .slice q2 n2 c2)]).run Try.prog w = .ok (.slice (some ⟨w.heap.size, 0, none⟩) 2 2) (w.alloc (.cells #[.slice q n c, .slice q2 n2 c2] 59)) := by kernel_rfl
theorem bsl3 (q : Option Addr) (n c : Nat) (q2 : Option Addr) (n2 c2 : Nat) (q3 : Option Addr) (n3 c3 : Nat) (w : World) : (Instr.buildSlice 65 3 #[(0, .slice q n c), (1, .slice q2 n2 c2), (2, .slice q3 n3 c3)]).run Try.prog w = .ok (.slice (some ⟨w.heap.size, 0, none⟩) 3 3) (w.alloc (.cells #[.slice q n c, .slice q2 n2 c2, .slice q3 n3 c3] 59)) := by kernel_rfl
section
variable {ops : Array Oper} {rest : List Oper} {o : Oper} {a : Act} {w : World} {Q : Exit → Act → World → Prop}
theorem ls_new (w : World) (vs : List Value) (ls : List (List Nat)) (n : Nat) (hn : vs.length = n) (hm : n ≤ maxLen) (hl : ls.length = n) (hE : ∀ (j : Nat) (x : Value) (l : List Nat), vs[j]? = some x → ls[j]? = some l → Sl w x l) :
    Ls (w.alloc (.cells vs.toArray 59)) (.slice (some ⟨w.heap.size, 0, none⟩) n n) vs ls := by
  have hb : Below w.heap.size w (w.alloc (.cells vs.toArray 59)) := (Below.refl _ _).alloc (Nat.le_refl _) _
  subst hn
  refine ⟨hl.symm, ⟨_, _, rfl, Nat.le_refl _, hm, fun h0 => ⟨_, 0, rfl, by simp, fun j x hx => ?_⟩⟩, fun j x l hx hl => (hE j x l hx hl).keep hb⟩
  rw [Nat.zero_add, (Blk.new w vs.toArray 59).cell j]
  simpa using hx
theorem bs_lsW {K : Act → World → Prop} (d : Option Tmp) (hd : o.dst = d) {n : Nat} {parts : Array (Nat × Operand)} (ho : o.op = .buildSlice 65 n parts) (xs : List Value) (ls : List (List Nat)) {vs : Array (Nat × Value)} (hl : parts.map (fun (i, x) => (i, a.eval x)) = vs)
    (hrun : (Instr.buildSlice 65 n vs).run Try.prog w = .ok (.slice (some ⟨w.heap.size, 0, none⟩) n n) (w.alloc (.cells xs.toArray 59))) (hn : xs.length = n) (hm : n ≤ maxLen) (hln : ls.length = n) (hE : ∀ (j : Nat) (x : Value) (l : List Nat), xs[j]? = some x → ls[j]? = some l → Sl w x l)
    (h : ∀ W', Ls W' (.slice (some ⟨w.heap.size, 0, none⟩) n n) xs ls → Below w.heap.size w W' → Blk W' w.heap.size xs.toArray 59 → K (a.put d (.slice (some ⟨w.heap.size, 0, none⟩) n n)) W') : o.wp Try.prog a w K Q := by
  subst hd
  unfold Oper.wp execOp
  simp only [ho, Sem.run_bind, hl, hrun, Result.andThen_ok]
  exact h _ (ls_new w xs ls n hn hm hln hE) ((Below.refl _ _).alloc (Nat.le_refl _) _) (Blk.new w _ _)
theorem bs_ls (hw : Region.wanted o (yielded ops a.tmps) = true) {n : Nat} {parts : Array (Nat × Operand)} (ho : o.op = .buildSlice 65 n parts) (xs : List Value) (ls : List (List Nat)) {vs : Array (Nat × Value)} (hl : parts.map (fun (i, x) => (i, a.eval x)) = vs)
    (hrun : (Instr.buildSlice 65 n vs).run Try.prog w = .ok (.slice (some ⟨w.heap.size, 0, none⟩) n n) (w.alloc (.cells xs.toArray 59))) (hn : xs.length = n) (hm : n ≤ maxLen) (hln : ls.length = n) (hE : ∀ (j : Nat) (x : Value) (l : List Nat), xs[j]? = some x → ls[j]? = some l → Sl w x l)
    (h : ∀ W', Ls W' (.slice (some ⟨w.heap.size, 0, none⟩) n n) xs ls → Below w.heap.size w W' → Blk W' w.heap.size xs.toArray 59 → wpList Try.prog ops Q rest (a.put o.dst (.slice (some ⟨w.heap.size, 0, none⟩) n n)) W') : wpList Try.prog ops Q (o :: rest) a w := by
  unfold wpList
  rw [if_pos hw]
  left
  exact bs_lsW o.dst rfl ho xs ls hl hrun hn hm hln hE h
end
theorem each1 {w : World} {v : Value} {l : List Nat} (h : Sl w v l) : ∀ (j : Nat) (x : Value) (m : List Nat), [v][j]? = some x → [l][j]? = some m → Sl w x m := by
  intro j x m hx hm
  match j, hx, hm with
  | 0, hx, hm => simp at hx hm; subst hx; subst hm; exact h
theorem each2 {w : World} {v v2 : Value} {l l2 : List Nat} (h : Sl w v l) (h2 : Sl w v2 l2) : ∀ (j : Nat) (x : Value) (m : List Nat), [v, v2][j]? = some x → [l, l2][j]? = some m → Sl w x m := by
  intro j x m hx hm
  match j, hx, hm with
  | 0, hx, hm => simp at hx hm; subst hx; subst hm; exact h
  | 1, hx, hm => simp at hx hm; subst hx; subst hm; exact h2
theorem each3 {w : World} {v v2 v3 : Value} {l l2 l3 : List Nat} (h : Sl w v l) (h2 : Sl w v2 l2) (h3 : Sl w v3 l3) : ∀ (j : Nat) (x : Value) (m : List Nat), [v, v2, v3][j]? = some x → [l, l2, l3][j]? = some m → Sl w x m := by
  intro j x m hx hm
  match j, hx, hm with
  | 0, hx, hm => simp at hx hm; subst hx; subst hm; exact h
  | 1, hx, hm => simp at hx hm; subst hx; subst hm; exact h2
  | 2, hx, hm => simp at hx hm; subst hx; subst hm; exact h3

set_option maxHeartbeats 400000 in
theorem inside_no (v : Value) (l : List Nat) (w : World) (hv : Sl w v l) (hb : Byt l) (hno : insOK l = false) :
    Calls Try.prog 51 #[v] w fun e w' => e = .returned (.tuple #[.slice none 0 0, .bool false]) ∧ Below w.heap.size w w' := by
  have hno' : ¬ (insOK l = true) := by simp [hno]
  rw [insOK_iff] at hno'
  obtain ⟨q, cap, g, off, rfl, hc, hm, hp, hg, hr⟩ := hv.open
  by_cases h0 : 8 ≤ l.length
  · have hb4 := hb.take 4
    have hb8 := (hb.drop 4).take 4
    obtain ⟨q1, e1⟩ := sliced_form q 0 4 cap
    obtain ⟨q2, e2⟩ := sliced_form q 4 8 cap
    obtain ⟨q3, e3⟩ := sliced_form q 8 l.length cap
    have s1 := hv.sub (Nat.zero_le 4) (by omega) (Nat.le_refl _) (by omega) e1.symm
    have s2 := hv.sub (i := 4) (j := 8) (by omega) (by omega) (Nat.le_refl _) (by omega) e2.symm
    have s3 := hv.sub h0 (Nat.le_refl _) (Nat.le_refl _) (by omega) e3.symm
    rw [List.take_of_length_le (by rw [List.length_drop]; omega)] at s3
    have HI : Hid (insB l = (l.drop 8).take (val (l.take 4))) := rfl
    have HB3 : Hid (Byt (l.drop 8)) := hb.drop 8
    have hl4 := val_lt _ hb4
    have hl8 := val_lt _ hb8
    have hle4 : (l.take 4).length = 4 := by rw [List.length_take]; omega
    have hle8 : ((l.drop 4).take 4).length = 4 := by rw [List.length_take, List.length_drop]; omega
    rw [hle4] at hl4
    rw [hle8] at hl8
    have HR1 : Hid (∀ W, Below w.heap.size w W → Calls Try.prog 67 #[.slice q1 (4 - 0) (cap - 0)] W fun e w' => e = .returned (.int .u64 ((val (l.take 4) : Nat) : Int)) ∧ w' = W) := fun W hW => read_any _ _ W (s1.keep hW) hb4 (by rw [hle4]; omega)
    have HR2 : Hid (∀ W, Below w.heap.size w W → Calls Try.prog 67 #[.slice q2 (8 - 4) (cap - 4)] W fun e w' => e = .returned (.int .u64 ((val ((l.drop 4).take 4) : Nat) : Int)) ∧ w' = W) := fun W hW => read_any _ _ W (s2.keep hW) hb8 (by rw [hle8]; omega)
    rw [HI.out] at hno'
    generalize hL : l.drop 8 = L at *
    have hLl : L.length = l.length - 8 := by rw [← hL, List.length_drop]
    generalize hn : l.length = n at *
    generalize hv4 : val (l.take 4) = c at *
    generalize hv8 : val ((l.drop 4).take 4) = s at *
    clear hp hg hr hb hno s1 s2 hle4 hle8 hb4 hb8 hL hv4 hv8 HI
    go_enter Try.func51, Try.ntmps51
    go_upto_region 3 with fail
    refine wp_region_below (by kernel_rfl) (by kernel_rfl) ?_
    have HZ := cls_some w
    go_big_quiet_step (fail)
    refine quiet_val rfl (.slice q1 (4 - 0) (cap - 0)) (fun w' hC => by rw [slb_h_run (j := 4) rfl rfl rfl rfl (by omega), e1]) ?_
    go_frame
    go_big_quiet_step (first | (go_at_call 67; exact calls_same (HR1.out _ (Cls.prop _))))
    go_big_quiet_step (fail)
    refine quiet_val rfl (.slice q2 (8 - 4) (cap - 4)) (fun w' hC => by rw [slb_lh_run (i := 4) (j := 8) rfl rfl rfl rfl rfl rfl (by omega) (by omega), e2]) ?_
    go_frame
    go_big_quiet_step (first | (go_at_call 67; exact calls_same (HR2.out _ (Cls.prop _))))
    go_big_quiet_step (fail)
    refine quiet_val rfl (.slice q3 (n - 8) (cap - 8)) (fun w' hC => by rw [slb_l_run (i := 8) rfl rfl rfl rfl h0 hc, e3]) ?_
    go_frame
    repeat (go_big_quiet_step (fail))
    refine wpQuiet_nil ?_
    rintro _ ⟨x, rfl⟩
    obtain ⟨W, hb⟩ := x
    dsimp only
    have s3' := s3.keep hb
    clear s3 HZ HR1 HR2 e1 e2 e3
    by_cases hc1 : c ≤ 16376
    · by_cases hc2 : c ≤ n - 8
      · have hs : sm (L.take c) ≠ s := fun h => hno' ⟨h0, hc1, hc2, h⟩
        have hs2 := sm_lt (L.take c)
        have hsn : ((sm (L.take c) : Int) != (s : Int)) = true := by simp; omega
        clear hno'
        have HBc : Hid (∀ l ∈ [L.take c], Byt l) := by intro l hl; simp at hl; subst hl; exact HB3.out.take _
        have HF : Hid ([L.take c].flatten = L.take c) := by simp [Hid]
        go_wp2_with (first
          | (refine slb_h rfl rfl c rfl rfl rfl (by omega) s3' ?_; intro q4 s4)
          | (refine bs_ls rfl rfl _ [L.take c] (by simp only [List.map_toArray, List.map_cons, List.map_nil]; rfl) (bsl1 _ _ _ _) rfl (by decide) rfl (each1 s4) ?_; intro W2 hls b2 hbk2)
          | (go_at_call 68; refine (sum_any _ _ _ _ hls HBc.out).mono ?_; rintro e W3 ⟨rfl, rfl⟩; rw [HF.out]))
        go_ret2
        exact ⟨rfl, ab_trans hb b2⟩
      · have hc2' : (n : Int) - 8 < c := by omega
        clear hno'
        go_wp2_with fail
        go_ret2
        exact ⟨rfl, hb⟩
    · clear hno'
      go_wp2_with fail
      go_ret2
      exact ⟨rfl, hb⟩
  · have h8 : (l.length : Int) < 8 := by omega
    generalize hn : l.length = n at *
    clear hr hp hg hb hno hno'
    go_enter Try.func51, Try.ntmps51
    go_wp2_with fail
    go_ret2
    exact ⟨rfl, Below.refl _ _⟩

set_option maxHeartbeats 400000 in
theorem inside_ok (v : Value) (l : List Nat) (w : World) (hv : Sl w v l) (hb : Byt l) (hok : insOK l = true) :
    Calls Try.prog 51 #[v] w fun e w' => ∃ q' cap', e = .returned (.tuple #[.slice q' (insB l).length cap', .bool true]) ∧ Sl w' (.slice q' (insB l).length cap') (insB l) ∧ Below w.heap.size w w' := by
  obtain ⟨h0, hc1, hc2, hs⟩ := (insOK_iff l).1 hok
  obtain ⟨q, cap, g, off, rfl, hc, hm, hp, hg, hr⟩ := hv.open
  have hb4 := hb.take 4
  have hb8 := (hb.drop 4).take 4
  obtain ⟨q1, e1⟩ := sliced_form q 0 4 cap
  obtain ⟨q2, e2⟩ := sliced_form q 4 8 cap
  obtain ⟨q3, e3⟩ := sliced_form q 8 l.length cap
  have s1 := hv.sub (Nat.zero_le 4) (by omega) (Nat.le_refl _) (by omega) e1.symm
  have s2 := hv.sub (i := 4) (j := 8) (by omega) (by omega) (Nat.le_refl _) (by omega) e2.symm
  have s3 := hv.sub h0 (Nat.le_refl _) (Nat.le_refl _) (by omega) e3.symm
  rw [List.take_of_length_le (by rw [List.length_drop]; omega)] at s3
  have HI : Hid (insB l = (l.drop 8).take (val (l.take 4))) := rfl
  have HB3 : Hid (Byt (l.drop 8)) := hb.drop 8
  have hl4 := val_lt _ hb4
  have hl8 := val_lt _ hb8
  have hle4 : (l.take 4).length = 4 := by rw [List.length_take]; omega
  have hle8 : ((l.drop 4).take 4).length = 4 := by rw [List.length_take, List.length_drop]; omega
  rw [hle4] at hl4
  rw [hle8] at hl8
  have HR1 : Hid (∀ W, Below w.heap.size w W → Calls Try.prog 67 #[.slice q1 (4 - 0) (cap - 0)] W fun e w' => e = .returned (.int .u64 ((val (l.take 4) : Nat) : Int)) ∧ w' = W) := fun W hW => read_any _ _ W (s1.keep hW) hb4 (by rw [hle4]; omega)
  have HR2 : Hid (∀ W, Below w.heap.size w W → Calls Try.prog 67 #[.slice q2 (8 - 4) (cap - 4)] W fun e w' => e = .returned (.int .u64 ((val ((l.drop 4).take 4) : Nat) : Int)) ∧ w' = W) := fun W hW => read_any _ _ W (s2.keep hW) hb8 (by rw [hle8]; omega)
  rw [HI.out] at hs ⊢
  generalize hL : l.drop 8 = L at *
  have hLl : L.length = l.length - 8 := by rw [← hL, List.length_drop]
  generalize hn : l.length = n at *
  generalize hv4 : val (l.take 4) = c at *
  generalize hv8 : val ((l.drop 4).take 4) = s at *
  clear hp hg hr hb hok s1 s2 hle4 hle8 hb4 hb8 hL hv4 hv8 HI
  go_enter Try.func51, Try.ntmps51
  go_upto_region 3 with fail
  refine wp_region_below (by kernel_rfl) (by kernel_rfl) ?_
  have HZ := cls_some w
  go_big_quiet_step (fail)
  refine quiet_val rfl (.slice q1 (4 - 0) (cap - 0)) (fun w' hC => by rw [slb_h_run (j := 4) rfl rfl rfl rfl (by omega), e1]) ?_
  go_frame
  go_big_quiet_step (first | (go_at_call 67; exact calls_same (HR1.out _ (Cls.prop _))))
  go_big_quiet_step (fail)
  refine quiet_val rfl (.slice q2 (8 - 4) (cap - 4)) (fun w' hC => by rw [slb_lh_run (i := 4) (j := 8) rfl rfl rfl rfl rfl rfl (by omega) (by omega), e2]) ?_
  go_frame
  go_big_quiet_step (first | (go_at_call 67; exact calls_same (HR2.out _ (Cls.prop _))))
  go_big_quiet_step (fail)
  refine quiet_val rfl (.slice q3 (n - 8) (cap - 8)) (fun w' hC => by rw [slb_l_run (i := 8) rfl rfl rfl rfl h0 hc, e3]) ?_
  go_frame
  repeat (go_big_quiet_step (fail))
  refine wpQuiet_nil ?_
  rintro _ ⟨x, rfl⟩
  obtain ⟨W, hb⟩ := x
  dsimp only
  have s3' := s3.keep hb
  clear s3 HZ HR1 HR2 e1 e2 e3
  have hs2 := sm_lt (L.take c)
  have hsn : ((s : Int) != (s : Int)) = false := by simp
  have HBc : Hid (∀ l ∈ [L.take c], Byt l) := by intro l hl; simp at hl; subst hl; exact HB3.out.take _
  have HF : Hid ([L.take c].flatten = L.take c) := by simp [Hid]
  have HL : Hid ((L.take c).length = c) := by show _ = _; rw [List.length_take]; omega
  go_wp2_with (first
    | (refine slb_h rfl rfl c rfl rfl rfl (by omega) s3' ?_; intro q4 s4)
    | (refine bs_ls rfl rfl _ [L.take c] (by simp only [List.map_toArray, List.map_cons, List.map_nil]; rfl) (bsl1 _ _ _ _) rfl (by decide) rfl (each1 s4) ?_; intro W2 hls b2 hbk2)
    | (go_at_call 68; refine (sum_any _ _ _ _ hls HBc.out).mono ?_; rintro e W3 ⟨rfl, rfl⟩; rw [HF.out, hs]))
  go_ret2
  rw [HL.out]
  exact ⟨_, _, rfl, s4.keep b2, ab_trans hb b2⟩
end Go.Proofs.Ytlhamckpgijjmaa
