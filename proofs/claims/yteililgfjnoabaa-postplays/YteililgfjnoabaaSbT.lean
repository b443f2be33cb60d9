/-
  '[]byte(s)' of a text: bytes of the call's own with a mark behind them; estuarynum.Over of such.
-/
import Derived.Test.YteililgfjnoabaaOvr
import Derived.Test.YteililgfjnoabaaMvs
import Derived.Lib.ConvBytes
namespace Go.Proofs.Yteililgfjnoabaa
open Go.RowKit
set_option linter.unusedVariables false
set_option maxRecDepth 100000

/-- Bytes in a new block, a mark behind them. -/
def Mb (W : World) (base : Nat) (v : Value) (l : List Nat) : Prop := ∃ g cap cur, v = .slice (some ⟨g, 0, none⟩) l.length cap ∧ base ≤ g ∧ W.heap[g]? = some (.cells cur 5 (cur.size, cur.size + 1)) ∧ l.length ≤ cur.size ∧ l.length ≤ cap ∧ cap ≤ maxLen ∧ cur.toList.take l.length = bys l
theorem Mb.at {W W' : World} {base : Nat} {v : Value} {l : List Nat} (h : Mb W base v l) (he : ∀ g, v.ownBlock = some g → W'.heap[g]? = W.heap[g]?) : Mb W' base v l := by
  obtain ⟨g, cap, cur, rfl, hb, hg, h1⟩ := h
  exact ⟨g, cap, cur, rfl, hb, (he g rfl).trans hg, h1⟩
theorem Mb.lt {W : World} {base : Nat} {v : Value} {l : List Nat} (h : Mb W base v l) : ∀ k, v.ownBlock = some k → base ≤ k ∧ k < W.heap.size := by
  obtain ⟨g, cap, cur, rfl, hb, hg, h1⟩ := h
  intro k hk
  have : g = k := by simpa [Value.ownBlock] using hk
  subst this
  exact ⟨hb, (Array.getElem?_eq_some_iff.1 hg).1⟩
theorem Mb.keep {W W' : World} {base : Nat} {v : Value} {l : List Nat} (h : Mb W base v l) (hb : Below W.heap.size W W') : Mb W' base v l := h.at fun g hg => hb.block g (h.lt g hg).2
theorem Mb.less {W : World} {base base' : Nat} {v : Value} {l : List Nat} (h : Mb W base v l) (hb : base' ≤ base) : Mb W base' v l := by
  obtain ⟨g, cap, cur, rfl, h0, hg, h1⟩ := h
  exact ⟨g, cap, cur, rfl, by omega, hg, h1⟩
theorem Mb.sl {W : World} {base : Nat} {v : Value} {l : List Nat} (h : Mb W base v l) : Sl W v l := by
  obtain ⟨g, cap, cur, rfl, hb, hg, h1, h2, h3, h4⟩ := h
  refine sl_of (g := g) (off := 0) rfl h2 h3 (fun _ => rfl) (fun _ => (Array.getElem?_eq_some_iff.1 hg).1) (fun j x hx => ?_)
  have hj : j < l.length := (List.getElem?_eq_some_iff.1 hx).1
  rw [Nat.zero_add, cell_of_row W g j cur 5 _ hg]
  have h5 : (bys l)[j]? = some (.int .u8 ((x : Nat) : Int)) := by rw [bys_at, hx]; rfl
  rw [← h4, List.getElem?_take, if_pos hj] at h5
  simpa using h5
theorem sbm_run (l : List Nat) (hb : Byt l) (w : World) (hl : l.length ≤ 9223372036854775807) : ∃ v W', (convert 9 34 (.string (strB l))).run Try.prog w = .ok v W' ∧ Mb W' w.heap.size v l ∧ Below w.heap.size w W' ∧ v.ownBlock = some w.heap.size := by
  have hsz : (strB l).size = l.length := strB_len l
  have hr := Go.Lib.run_convert_string_bytes (P := Try.prog) w 9 34 5 (strB l) Try.underlying9 Try.underlying34 Try.underlying5
  refine ⟨.slice (some ⟨w.heap.size, 0, none⟩) l.length (grownCap w l.length 0 5), Go.Lib.bytesWorld w 5 (strB l), by rw [hr, hsz], ?_, ⟨rfl, rfl, rfl, by rw [Go.Lib.bytesWorld_size]; omega, fun k hk => Go.Lib.bytesWorld_at_old w 5 (strB l) k hk⟩, rfl⟩
  have hge := grownCap_ge w l.length 0 5
  have hle := grownCap_le_maxLen w l.length 0 5 (by unfold maxLen; omega)
  have hbd : (strB l).data.size = l.length := hsz
  have hbs : bys l = ((strB l).data.map fun b => Value.int .u8 b.toNat).toList := by
    unfold strB bys
    rw [Array.toList_map, strOfNums_data, List.map_map, List.map_map]
    apply List.map_congr_left
    intro x hx
    have := hb x hx
    simp
    omega
  refine ⟨w.heap.size, _, Go.Lib.bytesCells w 5 (strB l), rfl, Nat.le_refl _, Go.Lib.bytesWorld_at_new w 5 (strB l), ?_, hge, hle, ?_⟩
  · unfold Go.Lib.bytesCells
    rw [Array.size_append, Array.size_map]
    omega
  · unfold Go.Lib.bytesCells
    rw [Array.toList_append, hbs]
    exact List.take_left' (by simp [hbd])
theorem sbm_t {ops : Array Oper} {rest : List Oper} {o : Oper} {a : Act} {w : World} {Q : Exit → Act → World → Prop} (hw : Region.wanted o (yielded ops a.tmps) = true) {x : Operand} (ho : o.op = .convert 9 34 x) {l : List Nat} (hx : a.eval x = .string (strB l)) (hb : Byt l) (hl : l.length ≤ 9223372036854775807)
    (h : ∀ v W', Mb W' w.heap.size v l → Below w.heap.size w W' → v.ownBlock = some w.heap.size → wpList Try.prog ops Q rest (a.put o.dst v) W') : wpList Try.prog ops Q (o :: rest) a w := by
  obtain ⟨v, W', hr, h1, h2, h3⟩ := sbm_run l hb w hl
  unfold wpList
  rw [if_pos hw]
  left
  unfold Oper.wp execOp
  simp only [ho, Sem.run_bind, hx, hr, Result.andThen_ok]
  exact h v W' h1 h2 h3
set_option maxHeartbeats 1000000 in
theorem overm_any (base : Nat) (v : Value) (l : List Nat) (w : World) (h : Mb w base v l) :
    Calls Try.prog 16 #[v] w fun e w' => e = .returned (.tuple #[]) ∧ (∀ g, v.ownBlock = some g → Chg g w w') := by
  obtain ⟨g, cap, cur, e, hb, hg, hc, h2, h3, h4⟩ := h
  unfold maxLen at h3
  generalize hn : l.length = n at *
  subst e
  have hz : ∀ i, i < n → ∃ z : Int, cur[i]? = some (.int .u8 z) := fun i hi => by
    have h5 : (bys l)[i]? = some (.int .u8 ((l[i]'(by omega) : Nat) : Int)) := by rw [bys_at, List.getElem?_eq_getElem (by omega)]; rfl
    rw [← h4, List.getElem?_take, if_pos hi] at h5
    exact ⟨_, by simpa using h5⟩
  clear h4
  generalize hm : cur.size = m at *
  go_enter Try.func16, Try.ntmps16
  go_wp2_with fail
  go_loopw [5] (fun x wr => ∃ (i : Nat) (ys : Array Value), i ≤ n ∧ x = .int .i64 (i : Int) ∧ wr.heap[g]? = some (.cells ys 5 (m, m + 1)) ∧ (∀ i, i < n → ∃ z : Int, ys[i]? = some (.int .u8 z)) ∧ Chg g w wr) (fun x _ => n - (intOf x).toNat)
  case atStart => exact ⟨0, cur, by omega, rfl, hg, hz, Chg.refl _ _⟩
  case round =>
    clear hg hz hm cur
    obtain ⟨i, ys, hi, rfl, hg, hz, hk⟩ := hrel
    by_cases hin : i = n
    · subst hin
      clear hz
      go_wp2_with fail
      go_end0
      exact ⟨rfl, fun g' hg' => by cases hg'; exact hk⟩
    · have hii : (i : Int) < (n : Int) := by omega
      have hin' : i < n := by omega
      obtain ⟨z, hz1⟩ := hz i hin'
      have d : wr.cell? ⟨g, i, none⟩ = some (.int .u8 z) := by rw [cell_of_row wr g i ys 5 _ hg, hz1]
      have fz : wr.frozen? ⟨g, i, none⟩ = false := by unfold World.frozen?; simp [hg]; omega
      have HZ : Hid (∀ i, i < n → ∃ z : Int, ys[i]? = some (.int .u8 z)) := hz
      have HG : Hid (wr.heap[g]? = some (.cells ys 5 (m, m + 1))) := hg
      clear hz hg hz1
      go_wp2_with fail
      refine ⟨⟨i + 1, ys.setIfInBounds i (.int .u8 (bits .xor .u8 z 255)), by omega, rfl, ?_, fun j hj => ?_, hk.trans (chg_set _ _ _ _)⟩, by simp only [intOf]; omega⟩
      · have hg' := HG.out
        simp [World.setCell, Array.getElem?_modify, hg']
      · by_cases hji : i = j
        · subst hji
          obtain ⟨z', hz'⟩ := HZ.out i hj
          exact ⟨_, by rw [Array.getElem?_setIfInBounds_self_of_lt (Array.getElem?_eq_some_iff.1 hz').1]⟩
        · rw [Array.getElem?_setIfInBounds_ne hji]
          exact HZ.out j hj
end Go.Proofs.Yteililgfjnoabaa
