/-
  The document's plan: Good.
-/
import Derived.Test.YtnooedipanhkjaaPnD
namespace Go.Proofs.Ytnooedipanhkjaa
open Go.RowKit
set_option linter.unusedVariables false
set_option maxRecDepth 100000

set_option maxHeartbeats 8000000 in
theorem rgood19_any (p : Pn) (w : World) (hv : Is w p.v p.l) :
    Calls Try.prog 10 #[pnV p] w fun e w' => e = .returned (.bool (gdP p)) ∧ Below w.heap.size w w' := by
  obtain ⟨q, cap, ev⟩ := hv.form
  obtain ⟨so, ke, v, l, sh, ho, ce, ba, le⟩ := p
  dsimp only at ev hv
  subst ev
  have hcap := hv.len
  obtain ⟨n, hn⟩ : ∃ n, l.length = n := ⟨_, rfl⟩
  have HNO : Hid (¬ ((1 ≤ so ∧ so ≤ 4) ∧ (ke = 1 ∨ ke = 3 ∨ ke = 5) ∧ (1 ≤ (n : Int) ∧ (n : Int) ≤ 3) ∧ (∀ x ∈ l, 1 ≤ x) ∧ (1 ≤ sh ∧ sh ≤ 4) ∧ (1 ≤ ho ∧ ho ≤ 64) ∧ (1 ≤ ce ∧ ce ≤ 1024) ∧ (1 ≤ ba ∧ ba ≤ 16) ∧ (1 ≤ le ∧ le ≤ 20)) → gdP ⟨so, ke, .slice q l.length cap, l, sh, ho, ce, ba, le⟩ = false) := fun h => by
    refine Bool.eq_false_iff.2 (fun h' => h ?_)
    have := gd_iff.1 h'
    dsimp only at this
    rw [hn] at this
    exact this
  have HYES : Hid (((1 ≤ so ∧ so ≤ 4) ∧ (ke = 1 ∨ ke = 3 ∨ ke = 5) ∧ (1 ≤ (n : Int) ∧ (n : Int) ≤ 3) ∧ (∀ x ∈ l, 1 ≤ x) ∧ (1 ≤ sh ∧ sh ≤ 4) ∧ (1 ≤ ho ∧ ho ≤ 64) ∧ (1 ≤ ce ∧ ce ≤ 1024) ∧ (1 ≤ ba ∧ ba ≤ 16) ∧ (1 ≤ le ∧ le ≤ 20)) → gdP ⟨so, ke, .slice q l.length cap, l, sh, ho, ce, ba, le⟩ = true) := fun h => by
    refine gd_iff.2 ?_
    dsimp only
    rw [hn]
    exact h
  obtain ⟨A, hAe, hX, hw⟩ := blk1 w #[.int .i64 so, .int .i64 ke, .slice q l.length cap, .int .i64 sh, .int .i64 ho, .int .i64 ce, .int .i64 ba, .int .i64 le] 24
  have hvA := hv.keep hw
  generalize gdP ⟨so, ke, .slice q l.length cap, l, sh, ho, ce, ba, le⟩ = G at *
  rw [hn] at hvA hX hAe ⊢
  have x0 : A.cell? ⟨w.heap.size, 0, none⟩ = some (.int .i64 so) := hX.at rfl
  have x1 : A.cell? ⟨w.heap.size, 1, none⟩ = some (.int .i64 ke) := hX.at rfl
  have x2 : A.cell? ⟨w.heap.size, 2, none⟩ = some (.slice q n cap) := hX.at rfl
  have x3 : A.cell? ⟨w.heap.size, 3, none⟩ = some (.int .i64 sh) := hX.at rfl
  have x4 : A.cell? ⟨w.heap.size, 4, none⟩ = some (.int .i64 ho) := hX.at rfl
  have x5 : A.cell? ⟨w.heap.size, 5, none⟩ = some (.int .i64 ce) := hX.at rfl
  have x6 : A.cell? ⟨w.heap.size, 6, none⟩ = some (.int .i64 ba) := hX.at rfl
  have x7 : A.cell? ⟨w.heap.size, 7, none⟩ = some (.int .i64 le) := hX.at rfl
  clear hX hv
  go_enter Try.func10, Try.ntmps10
  go_upto_region 1 with fail
  clear hAe
  by_cases c1 : so < 1
  · obtain rfl := HNO.out (fun h => by obtain ⟨h1, h2, h3, h4, h5, h6, h7, h8, h9⟩ := h; omega)
    go_wp2_with fail
    go_ret
    exact ⟨rfl, hw⟩
  by_cases c2 : 4 < so
  · obtain rfl := HNO.out (fun h => by obtain ⟨h1, h2, h3, h4, h5, h6, h7, h8, h9⟩ := h; omega)
    go_wp2_with fail
    go_ret
    exact ⟨rfl, hw⟩
  by_cases c3 : ke = 1 ∨ ke = 3 ∨ ke = 5
  rotate_left
  · obtain rfl := HNO.out (fun h => by obtain ⟨h1, h2, h3, h4, h5, h6, h7, h8, h9⟩ := h; omega)
    have k1 : (ke != 1) = true := by simp; omega
    have k3 : (ke != 3) = true := by simp; omega
    have k5 : (ke != 5) = true := by simp; omega
    go_wp2_with fail
    go_ret
    exact ⟨rfl, hw⟩
  rcases c3 with rfl | rfl | rfl
  all_goals
    by_cases c4 : sh < 1
    · obtain rfl := HNO.out (fun h => by obtain ⟨h1, h2, h3, h4, h5, h6, h7, h8, h9⟩ := h; omega)
      go_wp2_with fail
      go_ret
      exact ⟨rfl, hw⟩
    by_cases c5 : 4 < sh
    · obtain rfl := HNO.out (fun h => by obtain ⟨h1, h2, h3, h4, h5, h6, h7, h8, h9⟩ := h; omega)
      go_wp2_with fail
      go_ret
      exact ⟨rfl, hw⟩
    go_upto_region 3 with fail
    by_cases c6 : (n : Int) < 1
    · obtain rfl := HNO.out (fun h => by obtain ⟨h1, h2, h3, h4, h5, h6, h7, h8, h9⟩ := h; omega)
      go_wp2_with fail
      go_ret
      exact ⟨rfl, hw⟩
    by_cases c7 : (3 : Int) < (n : Int)
    · obtain rfl := HNO.out (fun h => by obtain ⟨h1, h2, h3, h4, h5, h6, h7, h8, h9⟩ := h; omega)
      go_wp2_with fail
      go_ret
      exact ⟨rfl, hw⟩
    go_upto_region 5 with fail
    go_wp2_with fail
    go_loopw [3] (fun i wr => wr = A ∧ ∃ k : Nat, k ≤ n ∧ i = .int .i64 (k : Int) ∧ ∀ x ∈ l.take k, 1 ≤ x) (fun i _ => n - (intOf i).toNat)
    case atStart => exact ⟨rfl, 0, by omega, rfl, fun x hx => by simp at hx⟩
    case round =>
      obtain ⟨rfl, k, hk, rfl, hall⟩ := hrel
      by_cases c : k = n
      · subst c
        rw [List.take_of_length_le (by omega)] at hall
        go_upto_region 10 with fail
        have HAL : Hid (∀ x ∈ l, 1 ≤ x) := hall
        clear hall hvA hcap
        by_cases d0 : ho < 1
        · obtain rfl := HNO.out (fun h => by obtain ⟨h1, h2, h3, h4, h5, h6, h7, h8, h9⟩ := h; omega)
          go_wp2_with fail
          go_ret
          exact ⟨rfl, hw⟩
        by_cases d1 : 64 < ho
        · obtain rfl := HNO.out (fun h => by obtain ⟨h1, h2, h3, h4, h5, h6, h7, h8, h9⟩ := h; omega)
          go_wp2_with fail
          go_ret
          exact ⟨rfl, hw⟩
        by_cases d2 : ce < 1
        · obtain rfl := HNO.out (fun h => by obtain ⟨h1, h2, h3, h4, h5, h6, h7, h8, h9⟩ := h; omega)
          go_wp2_with fail
          go_ret
          exact ⟨rfl, hw⟩
        by_cases d3 : 1024 < ce
        · obtain rfl := HNO.out (fun h => by obtain ⟨h1, h2, h3, h4, h5, h6, h7, h8, h9⟩ := h; omega)
          go_wp2_with fail
          go_ret
          exact ⟨rfl, hw⟩
        by_cases d4 : ba < 1
        · obtain rfl := HNO.out (fun h => by obtain ⟨h1, h2, h3, h4, h5, h6, h7, h8, h9⟩ := h; omega)
          go_wp2_with fail
          go_ret
          exact ⟨rfl, hw⟩
        by_cases d5 : 16 < ba
        · obtain rfl := HNO.out (fun h => by obtain ⟨h1, h2, h3, h4, h5, h6, h7, h8, h9⟩ := h; omega)
          go_wp2_with fail
          go_ret
          exact ⟨rfl, hw⟩
        by_cases d6 : le < 1
        · obtain rfl := HNO.out (fun h => by obtain ⟨h1, h2, h3, h4, h5, h6, h7, h8, h9⟩ := h; omega)
          go_wp2_with fail
          go_ret
          exact ⟨rfl, hw⟩
        obtain rfl : G = decide (le ≤ 20) := by
          by_cases d7 : le ≤ 20
          · rw [decide_eq_true d7]
            exact HYES.out ⟨by omega, by first | omega | simp, by omega, HAL.out, by omega, by omega, by omega, by omega, by omega⟩
          · rw [decide_eq_false d7]
            exact HNO.out (fun h => by obtain ⟨h1, h2, h3, h4, h5, h6, h7, h8, h9⟩ := h; omega)
        clear HNO HYES
        go_wp2_with fail
        go_ret
        exact ⟨rfl, hw⟩
      · obtain ⟨x, hx⟩ : ∃ x, l[k]? = some x := ⟨l[k], List.getElem?_eq_getElem (by omega)⟩
        obtain ⟨g, off, rfl, hg, hr⟩ := hvA.at (by omega)
        have y0 := hr k x hx
        have hki : (k : Int) < (n : Int) := by omega
        by_cases e : x < 1
        · obtain rfl := HNO.out (fun h => by have := h.2.2.2.1 x (List.mem_of_getElem? hx); omega)
          clear hr hall
          go_wp2_with fail
          go_ret
          exact ⟨rfl, hw⟩
        · have HV : Hid (∀ x ∈ l.take (k + 1), 1 ≤ x) := by
            intro x hm
            rw [List.take_add_one, hx] at hm
            simp only [Option.toList_some, List.mem_append, List.mem_singleton] at hm
            rcases hm with hm | rfl
            · exact hall x hm
            · omega
          clear hr hall
          go_wp2_with fail
          go_roundw
          case rel => exact ⟨trivial, k + 1, by omega, by go_num, HV.out⟩
          case measure => simp [intOf]; omega
end Go.Proofs.Ytnooedipanhkjaa
