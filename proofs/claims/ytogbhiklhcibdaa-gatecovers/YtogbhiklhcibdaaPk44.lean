/-
  slices.SortFunc at places by basin's order, whatever length: an own row of places becomes the same ones in order.
  basin's List, however many cells there are: those ahead of a place, by rising places.
-/
import Derived.Test.YtogbhiklhcibdaaPk01
import Derived.Test.YtogbhiklhcibdaaPk18
import Derived.Test.YtogbhiklhcibdaaPk43
namespace Go.Proofs.Ytogbhiklhcibdaa
open Go.RowKit
set_option linter.unusedVariables false
set_option maxRecDepth 100000

/-- A world with draws and new blocks alone. -/
def GrW (w w' : World) : Prop := ∃ q os, w' = Go.Sort.grow (w.drewN q) os
theorem GrW.refl (w : World) : GrW w w := ⟨0, #[], by rw [Go.Sort.grow_empty]; rfl⟩
theorem GrW.trans {a b c : World} (h : GrW a b) (k : GrW b c) : GrW a c := by
  obtain ⟨q, os, rfl⟩ := h
  obtain ⟨r, ps, rfl⟩ := k
  exact ⟨q + r, os ++ ps, by show Go.Sort.grow (Go.Sort.grow ((a.drewN q).drewN r) os) ps = _; rw [Go.Sort.grow_grow, World.drewN_drewN]⟩
theorem GrW.alloc {a b : World} (h : GrW a b) (o : Obj) : GrW a (b.alloc o) := h.trans ⟨0, #[o], by rw [Go.Sort.alloc_eq_grow]; rfl⟩
theorem GrW.drew {a b : World} (h : GrW a b) : GrW a b.drew := h.trans ⟨1, #[], by rw [Go.Sort.grow_empty]; rfl⟩
theorem GrW.below {a b : World} (h : GrW a b) : Below a.heap.size a b := by
  obtain ⟨q, os, rfl⟩ := h
  exact ⟨rfl, rfl, rfl, by simp [Go.Sort.grow, World.drewN], fun k hk => by simp [Go.Sort.grow, World.drewN, Array.getElem?_append, hk]⟩

theorem pless_gr (a0 a1 b0 b1 : Int) (w : World) : Calls Try.prog 24 #[Plc a0 a1, Plc b0 b1] w fun e w' => e = .returned (.bool (pl a0 a1 b0 b1)) ∧ GrW w w' := by
  by_cases c : a0 = b0
  · have hc : (a0 != b0) = false := by simp [c]
    have HF : Hid (decide (a1 < b1) = pl a0 a1 b0 b1) := by show _ = _; unfold pl; rw [decide_eq_decide]; omega
    clear c
    go_enter Try.func24, Try.ntmps24
    go_wp2_with fail
    go_ret
    exact ⟨ret_bool HF.out, by repeat (first | exact GrW.refl _ | refine GrW.alloc ?_ _ | refine GrW.drew ?_)⟩
  · have hc : (a0 != b0) = true := by simp [c]
    have HF : Hid (decide (a0 < b0) = pl a0 a1 b0 b1) := by show _ = _; unfold pl; rw [decide_eq_decide]; omega
    clear c
    go_enter Try.func24, Try.ntmps24
    go_wp2_with fail
    go_ret
    exact ⟨ret_bool HF.out, by repeat (first | exact GrW.refl _ | refine GrW.alloc ?_ _ | refine GrW.drew ?_)⟩

theorem border_gr (x y : Int × Int) (w : World) : Calls Try.prog 67 #[Plc x.1 x.2, Plc y.1 y.2] w fun e w' => e = .returned (.int .i64 (cfP x y)) ∧ GrW w w' := by
  obtain ⟨x0, x1⟩ := x
  obtain ⟨y0, y1⟩ := y
  have HC : Hid (cfP (x0, x1) (y0, y1) = if pl x0 x1 y0 y1 = true then -1 else if pl y0 y1 x0 x1 = true then 1 else 0) := rfl
  try dsimp only
  obtain ⟨A, hE, hX, hw⟩ := blk1 w #[.int .i64 x0, .int .i64 x1] 24
  have gA : GrW w A := by rw [← hE]; exact (GrW.refl w).alloc _
  obtain ⟨A2, hE2, hX2, hw2⟩ := blk1 A #[.int .i64 y0, .int .i64 y1] 24
  have gA2 : GrW w A2 := by rw [← hE2]; exact gA.alloc _
  have hX' := hX.keep hw2
  have g0 : A2.cell? ⟨w.heap.size, 0, none⟩ = some (.int .i64 x0) := hX'.at rfl
  have g1 : A2.cell? ⟨w.heap.size, 1, none⟩ = some (.int .i64 x1) := hX'.at rfl
  have g2 : A2.cell? ⟨A.heap.size, 0, none⟩ = some (.int .i64 y0) := hX2.at rfl
  have g3 : A2.cell? ⟨A.heap.size, 1, none⟩ = some (.int .i64 y1) := hX2.at rfl
  have hp := pless_gr x0 x1 y0 y1 A2
  have hq := fun W => pless_gr y0 y1 x0 x1 W
  cases c1 : pl x0 x1 y0 y1
  · rw [c1] at hp
    go_enter Try.func67, Try.ntmps67
    go_wp2_with fail
    refine hp.mono ?_
    rintro e W1 ⟨rfl, k1⟩
    have b1 := k1.below
    have h0 : W1.cell? ⟨w.heap.size, 0, none⟩ = some (.int .i64 x0) := (hX'.keep b1).at rfl
    have h1 : W1.cell? ⟨w.heap.size, 1, none⟩ = some (.int .i64 x1) := (hX'.keep b1).at rfl
    have h2 : W1.cell? ⟨A.heap.size, 0, none⟩ = some (.int .i64 y0) := (hX2.keep b1).at rfl
    have h3 : W1.cell? ⟨A.heap.size, 1, none⟩ = some (.int .i64 y1) := (hX2.keep b1).at rfl
    have gB : GrW w W1 := gA2.trans k1
    cases c2 : pl y0 y1 x0 x1
    · rw [c1, c2] at HC
      rw [c2] at hq
      clear hE hE2 g0 g1 g2 g3 hp
      go_wp2_with fail
      refine (hq _).mono ?_
      rintro e W2 ⟨rfl, k2⟩
      have gC := gB.trans k2
      go_wp2_with fail
      go_ret
      exact ⟨by rw [HC.out]; rfl, gC⟩
    · rw [c1, c2] at HC
      rw [c2] at hq
      clear hE hE2 g0 g1 g2 g3 hp
      go_wp2_with fail
      refine (hq _).mono ?_
      rintro e W2 ⟨rfl, k2⟩
      have gC := gB.trans k2
      go_wp2_with fail
      go_ret
      exact ⟨by rw [HC.out]; rfl, gC⟩
  · rw [c1] at hp HC
    go_enter Try.func67, Try.ntmps67
    go_wp2_with fail
    refine hp.mono ?_
    rintro e W1 ⟨rfl, k1⟩
    have gB : GrW w W1 := gA2.trans k1
    go_wp2_with fail
    go_ret
    exact ⟨by rw [HC.out]; rfl, gB⟩

section
variable {α : Type} [Inhabited α] (E : En α)
theorem flat_fl (l : List α) : Go.Sort.flatK E.f E.k l.toArray = (E.fl l).toArray := by
  have h0 := E.pos
  apply Array.ext
  · simp [E.fl_len]
  · intro t h1 h2
    have ht : t < l.length * E.k := by simpa using h1
    have hd : t / E.k < l.length := Nat.div_lt_of_lt_mul (by rw [Nat.mul_comm]; exact ht)
    have hm : t % E.k < E.k := Nat.mod_lt _ h0
    have e1 := Go.Sort.get_flatK E.f E.k l.toArray t (by simpa using ht)
    rw [getElem!_pos (Go.Sort.flatK E.f E.k l.toArray) t h1] at e1
    rw [e1]
    have e2 := E.fl_at l (t / E.k) l[t / E.k] (List.getElem?_eq_getElem hd) (t % E.k) ((E.f l[t / E.k])[t % E.k]'(by rw [E.len]; exact hm)) (List.getElem?_eq_getElem _)
    rw [Nat.mul_comm, Nat.div_add_mod] at e2
    have e3 := (List.getElem?_eq_some_iff.1 e2).2
    rw [List.getElem_toArray, e3, getElem!_pos l.toArray (t / E.k) (by simpa using hd), List.getElem_toArray, getElem!_pos (E.f l[t / E.k]) (t % E.k) (by rw [E.len]; exact hm)]
variable {E} {e : TypeId} {w : World} {B : Nat} {v : Value} {l l' : List α}
theorem EO.holds (h : EO E e w B v l) (h0 : 0 < l.length) : ∃ g cap cur, v = .slice (some ⟨g, 0, none⟩) l.length cap ∧ B ≤ g ∧ w.heap[g]? = some (.cells cur e (0, 0)) ∧ l.length ≤ cap ∧ cap ≤ maxLen ∧ cur.size = cap * E.k ∧ Go.Sort.HoldsK E.f E.k w g 0 l.toArray := by
  rcases h.2 with ⟨-, hn⟩ | ⟨g, cap, cur, hv, hb, hg, hn, hm, hs, ht⟩
  · omega
  · refine ⟨g, cap, cur, hv, hb, hg, hn, hm, hs, ?_⟩
    intro j hj
    rw [flat_fl] at hj ⊢
    have hj' : j < (E.fl l).length := by simpa using hj
    refine ⟨?_, by simp [World.frozen?, hg]⟩
    have e1 : (cur.toList.take (l.length * E.k))[j]? = (E.fl l)[j]? := by rw [ht]
    rw [List.getElem?_take, if_pos (by rw [← E.fl_len]; exact hj'), Array.getElem?_toList, List.getElem?_eq_getElem hj'] at e1
    simp only [World.cell?, hg, Nat.zero_add]
    simp only [Option.isSome_none, Bool.false_eq_true, if_false]
    rw [e1]
    simp [getElem!_pos, hj']
theorem sorted_own {g cap n : Nat} {os : Array Obj} {cur : Array Value} (hl : l'.length = l.length) (hb : B ≤ g) (hg : w.heap[g]? = some (.cells cur e (0, 0))) (hn : l.length ≤ cap) (hm : cap ≤ maxLen) (hs : cur.size = cap * E.k) :
    EO E e (sortWorldK E.f E.k w g 0 n l'.toArray os) B (.slice (some ⟨g, 0, none⟩) l.length cap) l' ∧ Below B w (sortWorldK E.f E.k w g 0 n l'.toArray os) := by
  have hlt : g < w.heap.size := (Array.getElem?_eq_some_iff.1 hg).1
  constructor
  · unfold EO
    rw [hl]
    refine ⟨by rw [E.fl_len, hl], .inr ⟨g, cap, Go.Sort.putCells id 0 (E.fl l').toArray cur, rfl, hb, ?_, hn, hm, by simp [Go.Sort.putCells, hs], ?_⟩⟩
    · unfold sortWorldK Go.Sort.putRowK
      rw [flat_fl]
      rw [Go.Sort.heap_grow_old _ _ (by simpa using hlt)]
      simp [Go.Sort.putRow, Go.Sort.mapBlock, Go.Sort.ahead, Array.getElem?_modify, hg, Go.Sort.onCells]
    · have hc : (E.fl l').length ≤ cur.size := by rw [E.fl_len, hl, hs]; exact Nat.mul_le_mul_right _ hn
      have hk : l.length * E.k = (E.fl l').length := by rw [E.fl_len, hl]
      rw [hk]
      apply List.ext_getElem?
      intro j
      by_cases hj : j < (E.fl l').length
      · rw [List.getElem?_take_of_lt hj, Array.getElem?_toList]
        simp [Go.Sort.putCells, hj, show j < cur.size by omega]
      · rw [List.getElem?_take_eq_none (by omega), List.getElem?_eq_none (by omega)]
  · unfold sortWorldK Go.Sort.putRowK
    refine ⟨rfl, rfl, rfl, by simp [Go.Sort.putRow, Go.Sort.mapBlock, Go.Sort.ahead], fun k hk => ?_⟩
    rw [Go.Sort.heap_grow_old _ _ (by simp [Go.Sort.putRow, Go.Sort.mapBlock, Go.Sort.ahead]; omega)]
    simp [Go.Sort.putRow, Go.Sort.mapBlock, Go.Sort.ahead, Array.getElem?_modify, show g ≠ k by omega]
end
theorem basort_any {w : World} {B : Nat} {v : Value} {P : List (Int × Int)} (h : EO E2 24 w B v P) (hP : P.length < 4611686018427387904) :
    Calls Try.prog 66 #[v, .func (.func 67) #[] #[]] w fun e w' => e = .returned (.tuple #[]) ∧ EO E2 24 w' B v (sortP P) ∧ Below B w w' := by
  by_cases h0 : P.length = 0
  · have hP0 : P = [] := List.length_eq_zero_iff.1 h0
    subst hP0
    obtain ⟨q, cap, rfl⟩ := h.form
    have := AnyF.slices_SortFunc_none srt_lays q cap (.func (.func 67) #[] #[]) w
    refine Calls.mono (P := Try.prog) this ?_
    rintro e w' ⟨he, rfl⟩
    exact ⟨he, by rw [show sortP [] = [] by unfold sortP; simp]; exact h, Below.refl _ _⟩
  · obtain ⟨g, cap, cur, rfl, hb, hg, hn, hm, hs, hH⟩ := h.holds (by omega)
    have eg : ∀ args w, (callFunc 67 args).run Try.prog w = .ok (.enter 67 args) w := enters_of Try.func67 (by kernel_rfl) rfl
    have hc : CmpLays Try.prog 67 #[] E2.f 2 cfP g 0 P.toArray.size w := fun _ _ _ _ x y => border_gr x y _
    have := AnyQ.slices_SortFunc_total srt_lays 2 Try.isAgg24 Try.sizeOf24 E2.f E2.len E2.one cfP swoP 67 #[] g 0 cap P.toArray w eg hc hH ((Array.getElem?_eq_some_iff.1 hg).1) (by simpa using hP) (fun x y h1 h2 => by rw [ltcf] at h1 h2; exact totP x y h1 h2)
    simp only [List.size_toArray] at this
    refine Calls.mono (P := Try.prog) this ?_
    rintro e w' ⟨he, n, os, rfl⟩
    have hs2 : (P.mergeSort fun x y => !(ltOf cfP) y x) = sortP P := by
      unfold sortP
      congr 1
      funext x y
      rw [ltcf]
    obtain ⟨k1, k2⟩ := sorted_own (E := E2) (l := P) (l' := sortP P) (w := w) (n := n) (os := os) (sortP_len P) hb hg hn hm hs
    exact ⟨he, by rw [hs2]; exact k1, by rw [hs2]; exact k2⟩
end Go.Proofs.Ytogbhiklhcibdaa
namespace Go.Proofs.Ytogbhiklhcibdaa
open Go.RowKit Go.Maps
set_option linter.unusedVariables false
set_option maxRecDepth 100000

/-- The places of a lane's cells ahead of a place, in order. -/
def lisP (S : Bsn) (i : Nat) (pt : Int × Int) : List (Int × Int) := sortP (plsK (i : Int) pt S.ks)
/-- How many entries come. -/
def lisN (S : Bsn) (i : Nat) (pt : Int × Int) (mo : Int) : Nat := (min mo ((lisP S i pt).length : Int)).toNat
def lisE (S : Bsn) (i : Nat) (pt : Int × Int) (mo : Int) : List Ent := entL S (i : Int) (lisP S i pt) (lisN S i pt mo)
theorem plsK_mem {lane : Int} {pt p : Int × Int} {ks : List Kyy} (h : p ∈ plsK lane pt ks) : (lane, p) ∈ ks ∧ pl p.1 p.2 pt.1 pt.2 = true := by
  unfold plsK at h
  obtain ⟨k, hk, rfl⟩ := List.mem_map.1 h
  obtain ⟨h1, h2⟩ := List.mem_filter.1 hk
  unfold selK at h2
  simp only [Bool.and_eq_true, decide_eq_true_eq] at h2
  obtain ⟨e, h3⟩ := h2
  obtain ⟨a, b⟩ := k
  dsimp only at e
  subst e
  exact ⟨h1, h3⟩
theorem plsK_of {lane : Int} {pt p : Int × Int} {ks : List Kyy} (h : (lane, p) ∈ ks) (hp : pl p.1 p.2 pt.1 pt.2 = true) : p ∈ plsK lane pt ks := by
  unfold plsK
  refine List.mem_map.2 ⟨(lane, p), List.mem_filter.2 ⟨h, ?_⟩, rfl⟩
  unfold selK
  simp [hp]
theorem plsK_nodup {lane : Int} {pt : Int × Int} {ks : List Kyy} (h : ks.Nodup) : (plsK lane pt ks).Nodup := by
  unfold plsK
  unfold List.Nodup
  rw [List.pairwise_map]
  refine List.Pairwise.imp_of_mem ?_ (h.filter (selK lane pt))
  intro a b ha hb hne e
  have h1 := (List.mem_filter.1 ha).2
  have h2 := (List.mem_filter.1 hb).2
  unfold selK at h1 h2
  simp only [Bool.and_eq_true, decide_eq_true_eq] at h1 h2
  exact hne (Prod.ext (h1.1.trans h2.1.symm) e)
theorem plsK_perm {lane : Int} {pt : Int × Int} {ks ls : List Kyy} (h : ks.Perm ls) : (plsK lane pt ks).Perm (plsK lane pt ls) := (h.filter _).map _
theorem lisP_len {S : Bsn} (i : Nat) (pt : Int × Int) : (lisP S i pt).length ≤ S.ks.length := by
  unfold lisP
  rw [sortP_len]
  exact plsK_len _ _ _
theorem lisP_mem {S : Bsn} {i : Nat} {pt p : Int × Int} : p ∈ lisP S i pt ↔ ((i : Int), p) ∈ S.ks ∧ pl p.1 p.2 pt.1 pt.2 = true := by
  unfold lisP
  rw [(sortP_perm _).mem_iff]
  exact ⟨plsK_mem, fun h => plsK_of h.1 h.2⟩
theorem balist_any {B : Nat} {K : Bkk} {S : Bsn} (i : Nat) (pt : Int × Int) (mo : Int) (w : World) (h : Bq w B K S) (hi : i < S.ba.length) (hm : 1 ≤ mo) :
    Calls Try.prog 46 #[bptr K, .int .i64 (i : Int), Plc pt.1 pt.2, .int .i64 mo] w fun e w' => ∃ v, e = .returned v ∧ EO EE 63 w' w.heap.size v (lisE S i pt mo) ∧ Below w.heap.size w w' := by
  have hl : (lisP S i pt).length ≤ 2000 := by have := lisP_len (S := S) i pt; have := h.ok.kl; have := h.ok.m1; omega
  refine balist_of i pt mo (lisP S i pt) w h hi hm hl (fun p hp => (h.ok.kk _ (lisP_mem.1 hp).1).1) (fun W hW => ?_)
  refine bacoll_any (i : Int) pt W (h.keep hW) _ ?_
  intro v got V hpm hO hV
  have hg : got.length ≤ 2000 := by have := hpm.length_eq; have := h.ok.kl; have := h.ok.m1; omega
  refine (basort_any hO (by have := plsK_len (i : Int) pt got; omega)).mono ?_
  rintro e V2 ⟨rfl, hO2, hb⟩
  refine ⟨rfl, v, rfl, ?_, ?_⟩
  · have he : lisP S i pt = sortP (plsK (i : Int) pt got) := by unfold lisP; exact sortP_uniq (plsK_perm hpm)
    rw [he]
    exact own_less hO2 hW.size
  · exact hV.trans hb
/-- List, whatever is asked. -/
def lisA (S : Bsn) (n : Int) (pt : Int × Int) (mo : Int) : List Ent := if hasN n S.ba.length = true ∧ 1 ≤ mo then lisE S n.toNat pt mo else []
theorem balist_all {B : Nat} {K : Bkk} {S : Bsn} (n : Int) (pt : Int × Int) (mo : Int) (w : World) (h : Bq w B K S) :
    Calls Try.prog 46 #[bptr K, .int .i64 n, Plc pt.1 pt.2, .int .i64 mo] w fun e w' => ∃ v, e = .returned v ∧ EO EE 63 w' w.heap.size v (lisA S n pt mo) ∧ Below w.heap.size w w' := by
  unfold lisA
  by_cases hc : hasN n S.ba.length = true ∧ 1 ≤ mo
  · rw [if_pos hc]
    obtain ⟨i, rfl, hi⟩ := hasN_no hc.1
    rw [Int.toNat_natCast]
    exact balist_any i pt mo w h hi hc.2
  · rw [if_neg hc]
    refine (balist_no n pt mo w h ?_).mono ?_
    · cases hh : hasN n S.ba.length
      · exact .inl rfl
      · exact .inr (by have : ¬ 1 ≤ mo := fun e => hc ⟨hh, e⟩; omega)
    · rintro e w' ⟨rfl, hb⟩
      exact ⟨_, rfl, eo_nil _ _ _ _, hb⟩
end Go.Proofs.Ytogbhiklhcibdaa
