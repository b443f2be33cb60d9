/-
  The chapter's example: estuarylaw14.alive.
-/
import Derived.Test.YtackgngmdcionaaPk36
import Derived.Test.YtackgngmdcionaaPk31
namespace Go.Proofs.Ytackgngmdcionaa
open Go.RowKit
set_option linter.unusedVariables false
set_option maxRecDepth 100000

theorem sis1 (a : Int) (w : World) : (Instr.buildSlice 22 1 #[(0, .int .i64 a)]).run Try.prog w = .ok (.slice (some ⟨w.heap.size, 0, none⟩) 1 1) (w.alloc (.cells (ints [a]).toArray 3)) := by kernel_rfl
theorem seq88 (w : World) : (binOp .eql 29 (Err 8) (Err 8)).run Try.prog w = .ok (.bool true) w := by kernel_rfl
theorem seq99 (w : World) : (binOp .eql 29 (Err 9) (Err 9)).run Try.prog w = .ok (.bool true) w := by kernel_rfl
theorem sne0 (w : World) : (binOp .neq 29 .nilIface .nilIface).run Try.prog w = .ok (.bool false) w := by kernel_rfl
theorem seq0 (w : World) : (binOp .eql 29 .nilIface .nilIface).run Try.prog w = .ok (.bool true) w := by kernel_rfl
def LM : Int := -9223372036854775808
def al0 : Sm := newS [10] 1 2
def alo : Op5 := ⟨1, 1, 5, 1, 7⟩
def alm : Op5 := ⟨2, 2, 10, 0, 0⟩
def al1 : Sm := ⟨[10], 1, 2, 2, zOp, [alo], [(-9223372036854775808, -9223372036854775808)]⟩
def al2 : Sm := ⟨[10], 1, 2, 3, alm, [alo], [(-9223372036854775808, -9223372036854775808)]⟩
def al3 : Sm := ⟨[10], 1, 2, 3, alm, [], [(1, -9223372036854775808)]⟩
theorem al_good : goodF [10] 1 2 = true := by decide +kernel
theorem al_s0 : sampO al0 5 1 7 = alo ∧ sampN al0 5 = 0 := ⟨by kernel_rfl, by kernel_rfl⟩
theorem al_p0 : putS al0 alo = al1 ∧ putN al0 alo = 0 := ⟨by kernel_rfl, by kernel_rfl⟩
theorem al_s1 : markO al1 10 = alm ∧ markN al1 10 = 0 := ⟨by kernel_rfl, by kernel_rfl⟩
theorem al_p1 : putS al1 alm = al2 ∧ putN al1 alm = 0 := ⟨by kernel_rfl, by kernel_rfl⟩
theorem al_s2 : sampO al2 9 1 1 = zOp ∧ sampN al2 9 = 8 := ⟨by kernel_rfl, by kernel_rfl⟩
theorem al_m2 : markO al2 9 = zOp ∧ markN al2 9 = 9 := ⟨by kernel_rfl, by kernel_rfl⟩
theorem al_c : cutS al2 [(1, -9223372036854775808)] = al3 := by kernel_rfl
theorem al_r : repL al3 1 9 = [alm] ∧ repN al3 1 9 = 2 := ⟨by kernel_rfl, by kernel_rfl⟩
theorem Sq.frmB {W W' : World} {B b : Nat} {vr vh vc : Value} {S : Sm} (h : Sq W B b vr vh vc S) {vh' : Value} {W0 : World} (m : Ms b vc W W' vh vh') (hb : Below B W0 W) (hB : W0.heap.size = B) : Below B W0 W' :=
  hb.trans (m.frm.below (by rw [← hB]; exact hb.size) (fun k hk => (h.bkge hk).1))
theorem er_onep {W : World} {g : Nat} {x y : Int} (h : Blk W g #[.int .i64 x, .int .i64 y] 64) : ER E2 W (.slice (some ⟨g, 0, none⟩) 1 1) [(x, y)] :=
  ⟨_, 1, g, 0, rfl, Nat.le_refl _, by omega, fun _ => ⟨rfl, h.lt⟩, fun j u hu => by
    rw [Nat.zero_add, h.cell]
    rw [E2.fl_one1] at hu
    have : (#[Value.int .i64 x, .int .i64 y] : Array Value).toList[j]? = some u := hu
    simpa using this⟩
theorem Ms.out {b x : Nat} {vc vh vh' : Value} {W W' : World} (m : Ms b vc W W' vh vh') (hx : ¬ bkS b vh vc x) (hl : x < W.heap.size) : ¬ bkS b vh' vc x := by
  rintro (h | h | h)
  · exact hx (.inl h)
  · rcases m.nh x h with e | e
    · exact hx (.inr (.inl e))
    · omega
  · exact hx (.inr (.inr h))
theorem Sq.fresh {W : World} {B b : Nat} {vr vh vc : Value} {S : Sm} (h : Sq W B b vr vh vc S) {x : Nat} (hx : W.heap.size ≤ x) : ¬ bkS b vh vc x := fun hk => by
  have := (h.bkge hk).2
  omega
set_option maxHeartbeats 4000000 in
theorem alive14_any (w : World) : Calls Try.prog 9 #[] w fun e w' => e = .returned (.bool true) ∧ Below w.heap.size w w' := by
  go_enter Try.func9, Try.ntmps9
  go_upto_region 2 with (first
    | (refine bs_own rfl rfl [10] (by simp only [List.map_toArray, List.map_cons, List.map_nil]; rfl) (isl1 _ _) rfl (by decide) ?_; intro W1 hN b1 z1)
    | (go_at_call 11; refine (snew_ok _ [10] 1 2 _ (own_is hN) (by decide) al_good).mono ?_; rintro e W2 ⟨b, vr, vh, vc, rfl, h2, b2⟩))
  have hw2 := ab_trans b1 b2
  clear hN z1
  go_upto_region 4 with fail
  rw [show newS [10] 1 2 = al0 from rfl] at h2
  have hc := ssample_any 5 1 7 W2 h2
  rw [al_s0.1, al_s0.2] at hc
  unfold opV opA alo at hc
  rw [show errV 0 = .nilIface from rfl] at hc
  dsimp only at hc
  go_upto_region 5 with (go_at_call 20; refine hc.mono ?_; rintro e W3 ⟨rfl, b3⟩; obtain ⟨A3, hE3, hX3, hw3⟩ := blk1 W3 (opA alo) 37; unfold opA alo at hE3; dsimp only at hE3)
  have h3 := (h2.keep b3).keep hw3
  have y0 : A3.cell? ⟨W3.heap.size, 0, none⟩ = some (.int .i64 1) := hX3.at rfl
  have y1 : A3.cell? ⟨W3.heap.size, 1, none⟩ = some (.int .i64 1) := hX3.at rfl
  have y2 : A3.cell? ⟨W3.heap.size, 2, none⟩ = some (.int .i64 5) := hX3.at rfl
  have y3 : A3.cell? ⟨W3.heap.size, 3, none⟩ = some (.int .i64 1) := hX3.at rfl
  have y4 : A3.cell? ⟨W3.heap.size, 4, none⟩ = some (.int .i64 7) := hX3.at rfl
  have hw4 := ab_trans (ab_trans hw2 b3) hw3
  have hp := sput_any alo A3 h3 (by constructor <;> (unfold J64 alo; dsimp only; omega)) (by decide) (by decide)
  rw [al_p0.1, al_p0.2, show errV 0 = .nilIface from rfl] at hp
  unfold opV opA alo at hp
  dsimp only at hp
  have hb4 : Below W1.heap.size W1 A3 := ab_trans (ab_trans b2 b3) hw3
  clear hE3 hX3 hc h2 b2 b3 hw3 hw2
  go_upto_region 7 with (go_at_call 15; refine hp.mono ?_; rintro e W4 ⟨rfl, vh4, h4, m4⟩)
  have hb5 := h3.frmB m4 hb4 rfl
  clear y0 y1 y2 y3 y4 hp h3 m4 hb4 hw4 A3
  have hc := smark_any 10 W4 h4
  rw [al_s1.1, al_s1.2] at hc
  unfold opV opA alm at hc
  rw [show errV 0 = .nilIface from rfl] at hc
  dsimp only at hc
  go_upto_region 8 with (first
    | (go_at_call 21; refine hc.mono ?_; rintro e W5 ⟨rfl, b5⟩; obtain ⟨Z5, hE5, hZ5, hz5⟩ := blk1 W5 (opA zOp) 37; unfold opA zOp at hE5; dsimp only at hE5)
    | (refine st_op rfl rfl (k1 := alm) hZ5 rfl rfl ?_; intro A5 hX5 C5))
  have hw5 : Below W5.heap.size W5 A5 := ab_chg hz5 C5 (Nat.le_refl _)
  clear hZ5 hz5 C5
  have h5 := (h4.keep b5).keep hw5
  have hfr5 := (h4.keep b5).fresh (Nat.le_refl W5.heap.size)
  have y0 : A5.cell? ⟨W5.heap.size, 0, none⟩ = some (.int .i64 2) := hX5.at rfl
  have y1 : A5.cell? ⟨W5.heap.size, 1, none⟩ = some (.int .i64 2) := hX5.at rfl
  have y2 : A5.cell? ⟨W5.heap.size, 2, none⟩ = some (.int .i64 10) := hX5.at rfl
  have y3 : A5.cell? ⟨W5.heap.size, 3, none⟩ = some (.int .i64 0) := hX5.at rfl
  have y4 : A5.cell? ⟨W5.heap.size, 4, none⟩ = some (.int .i64 0) := hX5.at rfl
  have hp := sput_any alm A5 h5 (by constructor <;> (unfold J64 alm; dsimp only; omega)) (by decide) (by decide)
  rw [al_p1.1, al_p1.2, show errV 0 = .nilIface from rfl] at hp
  unfold opV opA alm at hp
  dsimp only at hp
  have hb6 := (hb5.trans (b5.mono hb5.size)).trans (hw5.mono (Nat.le_trans hb5.size b5.size))
  clear hE5 hc h4 b5 hw5 hb5
  go_upto_region 10 with (go_at_call 15; refine hp.mono ?_; rintro e W6 ⟨rfl, vh6, h6, m6⟩)
  have hb7 := h5.frmB m6 hb6 rfl
  have hX6 := hX5.frm m6.frm hfr5
  have hfr6 := m6.out hfr5 hX5.lt
  clear y0 y1 y2 y3 y4 hp h5 m6 hb6 hfr5 hX5 A5
  have hc := ssample_any 9 1 1 W6 h6
  rw [al_s2.1, al_s2.2] at hc
  unfold opV opA zOp at hc
  rw [show errV 8 = Err 8 from rfl] at hc
  dsimp only at hc
  go_upto_region 11 with (first
    | (go_at_call 20; refine hc.mono ?_; rintro e W7 ⟨rfl, b7⟩; obtain ⟨Z7, hE7, hZ7, hz7⟩ := blk1 W7 (opA zOp) 37; unfold opA zOp at hE7; dsimp only at hE7)
    | (refine st_op rfl rfl (k1 := zOp) hZ7 rfl rfl ?_; intro A7 hX7 C7))
  have hw7 : Below W7.heap.size W7 A7 := ab_chg hz7 C7 (Nat.le_refl _)
  clear hZ7 hz7 C7
  have h7 := (h6.keep b7).keep hw7
  have hb8 := (hb7.trans (b7.mono hb7.size)).trans (hw7.mono (Nat.le_trans hb7.size b7.size))
  have hX8 := (hX6.keep b7).keep hw7
  clear hE7 hX7 hc h6 hX6 b7 hw7 hb7
  have hc := smark_any 9 A7 h7
  rw [al_m2.1, al_m2.2] at hc
  unfold opV opA zOp at hc
  rw [show errV 9 = Err 9 from rfl] at hc
  dsimp only at hc
  go_upto_region 12 with (first
    | (go_at_call 21; refine hc.mono ?_; rintro e W9 ⟨rfl, b9⟩; obtain ⟨Z9, hE9, hZ9, hz9⟩ := blk1 W9 (opA zOp) 37; unfold opA zOp at hE9; dsimp only at hE9)
    | (refine st_op rfl rfl (k1 := zOp) hZ9 rfl rfl ?_; intro A9 hX9 C9))
  have hw9 : Below W9.heap.size W9 A9 := ab_chg hz9 C9 (Nat.le_refl _)
  clear hZ9 hz9 C9
  have h9 := (h7.keep b9).keep hw9
  have hb10 := (hb8.trans (b9.mono hb8.size)).trans (hw9.mono (Nat.le_trans hb8.size b9.size))
  have hX10 := (hX8.keep b9).keep hw9
  clear hE9 hX9 hc h7 hX8 b9 hw9 hb8
  go_upto_region 13 with (first
    | (refine bpl_l rfl rfl 1 (-9223372036854775808) (by simp only [List.map_toArray, List.map_cons, List.map_nil]; rfl) ?_; intro W10 hP10 b10)
    | (go_at_call 17; refine (scut_ok _ [(1, -9223372036854775808)] _ (h9.keep b10) (er_onep hP10) (fun a n c e hk => by cases e; exact h9.fresh (Nat.le_refl _) (.inr (.inr hk))) (by decide) (fun p hp => by rw [List.mem_singleton.1 hp]; unfold J64; dsimp only; omega)).mono ?_; rintro e W11 ⟨rfl, vh11, h11, m11⟩))
  rw [al_c] at h11 ⊢
  rw [show (al2.ho.length : Int) - (al3.ho.length : Int) = 1 from rfl]
  have hX11 := (hX10.keep b10).frm m11.frm (fun hk => hfr6 hk)
  have hb11 := (h9.keep b10).frmB m11 (hb10.trans (b10.mono hb10.size)) rfl
  have hc := sreplay_any 1 9 W11 h11 (fun _ => insC_end (l := al3.ho) (o := al3.mr) (by decide) List.Pairwise.nil (fun x hx => by cases hx))
  rw [al_r.1, al_r.2] at hc
  clear h9 hb10 hX10 hP10 b10 m11 hfr6 h11
  go_upto_region 14 with (go_at_call 27; refine hc.mono ?_; rintro e W12 ⟨v12, rfl, hE12, b12⟩)
  obtain ⟨q, cap, g, off, rfl, hcc, hcm, hp, hr⟩ := hE12.at
  obtain ⟨rfl, hg⟩ := hp (by decide)
  have hX12 := hX11.keep b12
  have y0 : W12.cell? ⟨W5.heap.size, 0, none⟩ = some (.int .i64 2) := hX12.at rfl
  have y1 : W12.cell? ⟨W5.heap.size, 1, none⟩ = some (.int .i64 2) := hX12.at rfl
  have y2 : W12.cell? ⟨W5.heap.size, 2, none⟩ = some (.int .i64 10) := hX12.at rfl
  have y3 : W12.cell? ⟨W5.heap.size, 3, none⟩ = some (.int .i64 0) := hX12.at rfl
  have y4 : W12.cell? ⟨W5.heap.size, 4, none⟩ = some (.int .i64 0) := hX12.at rfl
  have z0 : W12.cell? ⟨g, off, none⟩ = some (.int .i64 2) := hr 0 alm rfl 0 _ rfl
  have z1 : W12.cell? ⟨g, off + 1, none⟩ = some (.int .i64 2) := hr 0 alm rfl 1 _ rfl
  have z2 : W12.cell? ⟨g, off + 2, none⟩ = some (.int .i64 10) := hr 0 alm rfl 2 _ rfl
  have z3 : W12.cell? ⟨g, off + 3, none⟩ = some (.int .i64 0) := hr 0 alm rfl 3 _ rfl
  have z4 : W12.cell? ⟨g, off + 4, none⟩ = some (.int .i64 0) := hr 0 alm rfl 4 _ rfl
  have hfin := ab_trans b1 (hb11.trans (b12.mono hb11.size))
  rw [show [alm].length = 1 from rfl]
  have e8 := seq88
  have e9 := seq99
  have e0 := seq0
  clear hX12 hX11 hr hp hE12 hb11 b12 hc hcc
  go_quiet (fail)
  go_wp2_with fail
  go_ret
  exact ⟨rfl, ab_drewN hfin _⟩
end Go.Proofs.Ytackgngmdcionaa
