/-
  The laws' own live question of layer 4 answers true.
-/
import Derived.Test.YthdgldoailjhhaaShpN
import Derived.Test.YthdgldoailjhhaaAffM
namespace Go.Proofs.Ythdgldoailjhhaa
open Go.RowKit

def lvT : Nat → Int := turnM 2
def lvB : Nat → Int := fun k => [0, 0, 0, 65536, 131072, 0].getD k 0
def lvP : Nat → Int := fun k => [65536, -65536, 0, 5].getD k 0
def lvV (z : Int) : Nat → Int := fun k => [3, 4, z].getD k 0
theorem lv_turn (w : World) : Calls Try.prog 21 #[.int .i64 2] w fun e w' => e = .returned (.agg #[.int .i64 0, .int .i64 (-65536), .int .i64 0, .int .i64 0, .int .i64 65536, .int .i64 0, .int .i64 0, .int .i64 0, .int .i64 0, .int .i64 0, .int .i64 65536, .int .i64 0]) ∧ Below w.heap.size w w' :=
  (rturn_any 2 w).mono fun _ _ ⟨he, hw⟩ => ⟨he, hw⟩
theorem lv_carE : carE lvT lvB = 0 := by decide
theorem lv_carV : carV lvT lvB 0 = -131072 ∧ carV lvT lvB 1 = 0 ∧ carV lvT lvB 2 = 0 ∧ carV lvT lvB 3 = 0 ∧ carV lvT lvB 4 = 65536 ∧ carV lvT lvB 5 = 0 := by decide
theorem lv_carry (w : World) : Calls Try.prog 12 #[.agg #[.int .i64 0, .int .i64 (-65536), .int .i64 0, .int .i64 0, .int .i64 65536, .int .i64 0, .int .i64 0, .int .i64 0, .int .i64 0, .int .i64 0, .int .i64 65536, .int .i64 0], .agg #[.int .i64 0, .int .i64 0, .int .i64 0, .int .i64 65536, .int .i64 131072, .int .i64 0]] w fun e w' => e = .returned (.tuple #[.agg #[.int .i64 (-131072), .int .i64 0, .int .i64 0, .int .i64 0, .int .i64 65536, .int .i64 0], .int .i64 0]) ∧ Below w.heap.size w w' :=
  (shcarry_any lvT lvB w).mono fun _ _ ⟨he, hw⟩ => ⟨by rw [he, lv_carE, lv_carV.1, lv_carV.2.1, lv_carV.2.2.1, lv_carV.2.2.2.1, lv_carV.2.2.2.2.1, lv_carV.2.2.2.2.2], hw⟩
theorem lv_spn : spnLo lvP lvB = -131067 ∧ spnHi lvP lvB = 65541 ∧ spnE lvP lvB = 0 := by decide
theorem lv_span (w : World) : Calls Try.prog 14 #[.agg #[.int .i64 65536, .int .i64 (-65536), .int .i64 0, .int .i64 5], .agg #[.int .i64 0, .int .i64 0, .int .i64 0, .int .i64 65536, .int .i64 131072, .int .i64 0]] w fun e w' => e = .returned (.tuple #[.int .i64 (-131067), .int .i64 65541, .int .i64 0]) ∧ Below w.heap.size w w' :=
  (shspan_any lvP lvB w).mono fun _ _ ⟨he, hw⟩ => ⟨by rw [he, lv_spn.1, lv_spn.2.1, lv_spn.2.2], hw⟩
theorem lv_in (w : World) : Calls Try.prog 16 #[.agg #[.int .i64 0, .int .i64 0, .int .i64 0, .int .i64 65536, .int .i64 131072, .int .i64 0], .agg #[.int .i64 3, .int .i64 4, .int .i64 0]] w fun e w' => e = .returned (.bool true) ∧ Below w.heap.size w w' :=
  (shin_any lvB (lvV 0) w).mono fun _ _ ⟨he, hw⟩ => ⟨by rw [he, show inBox lvB (lvV 0) = true by decide], hw⟩
theorem lv_out (w : World) : Calls Try.prog 16 #[.agg #[.int .i64 0, .int .i64 0, .int .i64 0, .int .i64 65536, .int .i64 131072, .int .i64 0], .agg #[.int .i64 3, .int .i64 4, .int .i64 1]] w fun e w' => e = .returned (.bool false) ∧ Below w.heap.size w w' :=
  (shin_any lvB (lvV 1) w).mono fun _ _ ⟨he, hw⟩ => ⟨by rw [he, show inBox lvB (lvV 1) = false by decide], hw⟩

theorem set6 {w : World} {g : Nat} {t : TypeId} {x0 x1 x2 x3 x4 x5 u0 u1 u2 u3 u4 u5 : Value} (h : Blk w g t #[x0, x1, x2, x3, x4, x5]) : Blk ((((((w.setCell ⟨g, 0, none⟩ u0).setCell ⟨g, 1, none⟩ u1).setCell ⟨g, 2, none⟩ u2).setCell ⟨g, 3, none⟩ u3).setCell ⟨g, 4, none⟩ u4).setCell ⟨g, 5, none⟩ u5) g t #[u0, u1, u2, u3, u4, u5] := set6hi (set6lo h)
set_option maxHeartbeats 4000000 in
set_option maxRecDepth 100000 in
theorem shreg2 {u0 u2 u3 u4 u5 u6 u7 u8 u9 u10 u11 u12 u13 u14 u15 u16 u17 u18 u19 u20 u21 u22 u23 u24 u25 u26 u27 u28 u29 u30 u31 u32 u33 u34 u35 u36 u37 u38 u39 u40 u41 u42 u43 u44 u45 u46 u47 u48 u49 u50 u51 u52 u53 u54 : Value} {Q : Exit → Act → World → Prop} {gb : Nat} {w : World}
    (hQ : ∀ c a d v w, Q (.panic c) (a.put d v) w → Q (.panic c) a w)
    (hm : Blk w gb 33 #[.int .i64 0, .int .i64 0, .int .i64 0, .int .i64 65536, .int .i64 131072, .int .i64 0])
    (hk : ∀ G W', Blk W' G 33 #[.int .i64 (-131072), .int .i64 0, .int .i64 0, .int .i64 0, .int .i64 65536, .int .i64 0] → Below w.heap.size w W' → Q .normal { tmps := #[u0, .pointer (some ⟨gb, 0, none⟩), .pointer (some ⟨G, 0, none⟩), .int .i64 0, u4, u5, u6, u7, u8, .tuple #[.agg #[.int .i64 (-131072), .int .i64 0, .int .i64 0, .int .i64 0, .int .i64 65536, .int .i64 0], .int .i64 0], .agg #[.int .i64 0, .int .i64 (-65536), .int .i64 0, .int .i64 0, .int .i64 65536, .int .i64 0, .int .i64 0, .int .i64 0, .int .i64 0, .int .i64 0, .int .i64 65536, .int .i64 0], .agg #[.int .i64 0, .int .i64 0, .int .i64 0, .int .i64 65536, .int .i64 131072, .int .i64 0], .tuple #[.agg #[.int .i64 (-131072), .int .i64 0, .int .i64 0, .int .i64 0, .int .i64 65536, .int .i64 0], .int .i64 0], .agg #[.int .i64 (-131072), .int .i64 0, .int .i64 0, .int .i64 0, .int .i64 65536, .int .i64 0], .int .i64 0, u15, u16, u17, u18, u19, u20, u21, u22, u23, u24, u25, u26, u27, u28, u29, u30, u31, u32, u33, u34, u35, u36, u37, u38, u39, u40, u41, u42, u43, u44, u45, u46, u47, u48, u49, u50, u51, u52, u53, u54], defers := [] } W') :
    (Code.region 2 #[{ dst := some 10, op := Op.call { callee := Callee.value (Operand.func 21), args := #[Operand.const (Value.int IntKind.i64 2)], argTypes := #[3] }, type := 25, pos := "law.go:18", after := #[], guard := none }, { dst := some 11, op := Op.load 33 (Operand.tmp 1), type := 33, pos := "law.go:18", after := #[], guard := none }, { dst := some 12, op := Op.call { callee := Callee.value (Operand.func 12), args := #[Operand.tmp 10, Operand.tmp 11], argTypes := #[25, 33] }, type := 35, pos := "law.go:18", after := #[{ on := 0, ground := Ground.data }, { on := 1, ground := Ground.data }, { on := 0, ground := Ground.chain }], guard := none }, { dst := some 9, op := Op.move (Operand.tmp 12), type := 35, pos := "law.go:18", after := #[{ on := 2, ground := Ground.data }], guard := none }, { dst := some 13, op := Op.extract (Operand.tmp 9) 0, type := 33, pos := "law.go:18", after := #[{ on := 3, ground := Ground.data }], guard := none }, { dst := some 14, op := Op.extract (Operand.tmp 9) 1, type := 34, pos := "law.go:18", after := #[{ on := 3, ground := Ground.data }, { on := 7, ground := Ground.gcOnly Departure.lateStores }], guard := none }, { dst := some 2, op := Op.alloc 33, type := 0, pos := "law.go:18", after := #[], guard := none }, { dst := none, op := Op.store 33 (Operand.tmp 2) (Operand.tmp 13), type := 0, pos := "law.go:18", after := #[{ on := 6, ground := Ground.data }, { on := 4, ground := Ground.data }, { on := 2, ground := Ground.chain }, { on := 0, ground := Ground.phase }, { on := 1, ground := Ground.phase }, { on := 2, ground := Ground.phase }, { on := 3, ground := Ground.phase }, { on := 4, ground := Ground.phase }, { on := 5, ground := Ground.textOnly Departure.lateStores }, { on := 6, ground := Ground.phase }], guard := none }, { dst := some 3, op := Op.assign (Operand.tmp 14), type := 34, pos := "law.go:18", after := #[{ on := 5, ground := Ground.data }, { on := 7, ground := Ground.chain }, { on := 0, ground := Ground.phase }, { on := 1, ground := Ground.phase }, { on := 2, ground := Ground.phase }, { on := 3, ground := Ground.phase }, { on := 4, ground := Ground.phase }, { on := 5, ground := Ground.phase }, { on := 6, ground := Ground.phase }, { on := 7, ground := Ground.phase }], guard := none }] true).wp Try.prog Q { tmps := #[u0, .pointer (some ⟨gb, 0, none⟩), u2, u3, u4, u5, u6, u7, u8, u9, u10, u11, u12, u13, u14, u15, u16, u17, u18, u19, u20, u21, u22, u23, u24, u25, u26, u27, u28, u29, u30, u31, u32, u33, u34, u35, u36, u37, u38, u39, u40, u41, u42, u43, u44, u45, u46, u47, u48, u49, u50, u51, u52, u53, u54], defers := [] } w := by
  have HK := Lib.hid hk
  clear hk
  have HS : Hid (∀ w', Below w.heap.size w w' → (w'.cell? ⟨gb, 0, none⟩ = some (.int .i64 0) ∧ w'.cell? ⟨gb, 1, none⟩ = some (.int .i64 0) ∧ w'.cell? ⟨gb, 2, none⟩ = some (.int .i64 0) ∧ w'.cell? ⟨gb, 3, none⟩ = some (.int .i64 65536) ∧ w'.cell? ⟨gb, 4, none⟩ = some (.int .i64 131072) ∧ w'.cell? ⟨gb, 5, none⟩ = some (.int .i64 0))) := Lib.hid (fun w' hb => ⟨(hm.keep hb).cell 0, (hm.keep hb).cell 1, (hm.keep hb).cell 2, (hm.keep hb).cell 3, (hm.keep hb).cell 4, (hm.keep hb).cell 5⟩)
  clear hm
  refine wp_region_held_drew (S := fun w' => w'.cell? ⟨gb, 0, none⟩ = some (.int .i64 0) ∧ w'.cell? ⟨gb, 1, none⟩ = some (.int .i64 0) ∧ w'.cell? ⟨gb, 2, none⟩ = some (.int .i64 0) ∧ w'.cell? ⟨gb, 3, none⟩ = some (.int .i64 65536) ∧ w'.cell? ⟨gb, 4, none⟩ = some (.int .i64 131072) ∧ w'.cell? ⟨gb, 5, none⟩ = some (.int .i64 0)) (by kernel_rfl) (HS.out _ (bdrewn (Below.refl _ _))) (fun hHeld => ?_)
  refine wpAnyH_take (i := 1) (v := ?_) rfl (by kernel_rfl) (by kernel_rfl) (by kernel_rfl) (fun c a w h => hQ c a _ _ w h) (Or.inl ⟨by rfl, ?_⟩) hHeld ?_
  rotate_left
  · rintro w ⟨s0, s1, s2, s3, s4, s5⟩
    go_simp
    with_reducible rfl
  simp only [Act.put, List.getElem_toArray, List.getElem_cons_zero, List.getElem_cons_succ, List.setIfInBounds_toArray, List.set_cons_zero, List.set_cons_succ]
  refine fin (fun W => Below w.heap.size w W) (bdrewn (Below.refl _ _)) ?_
  clear hHeld
  rintro y0 hb0
  have HB0 := Lib.hid hb0
  clear hb0
  have hHeld := HS.out _ HB0.out
  refine wpAnyH_ready (rs := [0, 6]) (by kernel_rfl) (by simp) ?_
  refine AllReadyH.cons rfl (fun K hK => ?_) (AllReadyH.cons rfl (fun K hK => ?_) AllReadyH.nil)
  · skip
    go_simp
    go_at_call 21
    refine (lv_turn _).mono ?_
    rintro e x1 ⟨rfl, b1⟩
    go_wp2_with fail
    refine hK.out _ _ (HS.out _ (bthen HB0.out b1)) (fun hHeld => ?_)
    clear hK K hHeld
    refine fin (fun W => Below w.heap.size w W) (bthen HB0.out b1) ?_
    clear HB0
    rintro y2 hb0
    have HB0 := Lib.hid hb0
    clear hb0
    have hHeld := HS.out _ HB0.out
    clear b1
    refine wpAnyH_ready (rs := [2, 6]) (by kernel_rfl) (by simp) ?_
    refine AllReadyH.cons rfl (fun K hK => ?_) (AllReadyH.cons rfl (fun K hK => ?_) AllReadyH.nil)
    · skip
      go_simp
      go_at_call 12
      refine (lv_carry _).mono ?_
      rintro e x3 ⟨rfl, b1⟩
      go_wp2_with fail
      refine hK.out _ _ (HS.out _ (bthen HB0.out b1)) (fun hHeld => ?_)
      clear hK K hHeld
      refine fin (fun W => Below w.heap.size w W) (bthen HB0.out b1) ?_
      clear HB0
      rintro y4 hb0
      have HB0 := Lib.hid hb0
      clear hb0
      have hHeld := HS.out _ HB0.out
      clear b1
      refine wpAnyH_take (i := 3) (v := ?_) rfl (by kernel_rfl) (by kernel_rfl) (by kernel_rfl) (fun c a w h => hQ c a _ _ w h) (Or.inl ⟨by rfl, ?_⟩) hHeld ?_
      rotate_left
      · intro w hSw
        go_simp
        with_reducible rfl
      simp only [Act.put, List.getElem_toArray, List.getElem_cons_zero, List.getElem_cons_succ, List.setIfInBounds_toArray, List.set_cons_zero, List.set_cons_succ]
      refine wpAnyH_take (i := 4) (v := ?_) rfl (by kernel_rfl) (by kernel_rfl) (by kernel_rfl) (fun c a w h => hQ c a _ _ w h) (Or.inl ⟨by rfl, ?_⟩) hHeld ?_
      rotate_left
      · intro w hSw
        go_simp
        with_reducible rfl
      simp only [Act.put, List.getElem_toArray, List.getElem_cons_zero, List.getElem_cons_succ, List.setIfInBounds_toArray, List.set_cons_zero, List.set_cons_succ]
      refine wpAnyH_take (i := 5) (v := ?_) rfl (by kernel_rfl) (by kernel_rfl) (by kernel_rfl) (fun c a w h => hQ c a _ _ w h) (Or.inl ⟨by rfl, ?_⟩) hHeld ?_
      rotate_left
      · intro w hSw
        go_simp
        with_reducible rfl
      simp only [Act.put, List.getElem_toArray, List.getElem_cons_zero, List.getElem_cons_succ, List.setIfInBounds_toArray, List.set_cons_zero, List.set_cons_succ]
      refine wpAnyH_ready (rs := [6]) (by kernel_rfl) (by simp) ?_
      refine AllReadyH.cons rfl (fun K hK => ?_) AllReadyH.nil
      go_simp
      refine hK.out _ _ (HS.out _ (balloc HB0.out _)) (fun hHeld => ?_)
      clear hK K hHeld
      have hge : w.heap.size ≤ y4.heap.size := HB0.out.size
      refine fin (fun W => Below w.heap.size w W ∧ Blk W (y4.heap.size) 33 #[.int .i64 0, .int .i64 0, .int .i64 0, .int .i64 0, .int .i64 0, .int .i64 0]) ⟨balloc HB0.out _, Blk.new _ _ _⟩ ?_
      clear HB0
      rintro y5 ⟨hb0, hx⟩
      have HB0 := Lib.hid hb0
      have HX := Lib.hid hx
      clear hb0 hx
      have hHeld := HS.out _ HB0.out
      refine wpAnyH_ready (rs := [7]) (by kernel_rfl) (by simp) ?_
      refine AllReadyH.cons rfl (fun K hK => ?_) AllReadyH.nil
      obtain ⟨g0, g1, g2, g3, g4, g5, h0, h1, h2, h3, h4, h5⟩ := blk6 HX.out
      go_simp
      refine hK.out _ _ (HS.out _ (bset6 HB0.out hge)) (fun hHeld => ?_)
      clear hK K hHeld g0 g1 g2 g3 g4 g5 h0 h1 h2 h3 h4 h5
      refine fin (fun W => Below w.heap.size w W ∧ Blk W (y4.heap.size) 33 #[.int .i64 (-131072), .int .i64 0, .int .i64 0, .int .i64 0, .int .i64 65536, .int .i64 0]) ⟨bset6 HB0.out hge, set6 HX.out⟩ ?_
      clear HB0 HX
      rintro y6 ⟨hb0, hx⟩
      have HB0 := Lib.hid hb0
      have HX := Lib.hid hx
      clear hb0 hx
      have hHeld := HS.out _ HB0.out
      clear hge
      refine wpAnyH_take (i := 8) (v := ?_) rfl (by kernel_rfl) (by kernel_rfl) (by kernel_rfl) (fun c a w h => hQ c a _ _ w h) (Or.inl ⟨by rfl, ?_⟩) hHeld ?_
      rotate_left
      · intro w hSw
        go_simp
        with_reducible rfl
      simp only [Act.put, List.getElem_toArray, List.getElem_cons_zero, List.getElem_cons_succ, List.setIfInBounds_toArray, List.set_cons_zero, List.set_cons_succ]
      refine wpAnyH_done (by kernel_rfl) ?_ _
      clear hHeld
      exact HK.out _ _ HX.out HB0.out
    · skip
      go_simp
      refine hK.out _ _ (HS.out _ (balloc HB0.out _)) (fun hHeld => ?_)
      clear hK K hHeld
      have hge : w.heap.size ≤ y2.heap.size := HB0.out.size
      refine fin (fun W => Below w.heap.size w W ∧ Blk W (y2.heap.size) 33 #[.int .i64 0, .int .i64 0, .int .i64 0, .int .i64 0, .int .i64 0, .int .i64 0]) ⟨balloc HB0.out _, Blk.new _ _ _⟩ ?_
      clear HB0
      rintro y7 ⟨hb0, hx⟩
      have HB0 := Lib.hid hb0
      have HX := Lib.hid hx
      clear hb0 hx
      have hHeld := HS.out _ HB0.out
      refine wpAnyH_ready (rs := [2]) (by kernel_rfl) (by simp) ?_
      refine AllReadyH.cons rfl (fun K hK => ?_) AllReadyH.nil
      go_simp
      go_at_call 12
      refine (lv_carry _).mono ?_
      rintro e x8 ⟨rfl, b1⟩
      go_wp2_with fail
      refine hK.out _ _ (HS.out _ (bthen HB0.out b1)) (fun hHeld => ?_)
      clear hK K hHeld
      refine fin (fun W => Below w.heap.size w W ∧ Blk W (y2.heap.size) 33 #[.int .i64 0, .int .i64 0, .int .i64 0, .int .i64 0, .int .i64 0, .int .i64 0]) ⟨bthen HB0.out b1, HX.out.keep b1⟩ ?_
      clear HB0 HX
      rintro y9 ⟨hb0, hx⟩
      have HB0 := Lib.hid hb0
      have HX := Lib.hid hx
      clear hb0 hx
      have hHeld := HS.out _ HB0.out
      clear b1
      refine wpAnyH_take (i := 3) (v := ?_) rfl (by kernel_rfl) (by kernel_rfl) (by kernel_rfl) (fun c a w h => hQ c a _ _ w h) (Or.inl ⟨by rfl, ?_⟩) hHeld ?_
      rotate_left
      · intro w hSw
        go_simp
        with_reducible rfl
      simp only [Act.put, List.getElem_toArray, List.getElem_cons_zero, List.getElem_cons_succ, List.setIfInBounds_toArray, List.set_cons_zero, List.set_cons_succ]
      refine wpAnyH_take (i := 4) (v := ?_) rfl (by kernel_rfl) (by kernel_rfl) (by kernel_rfl) (fun c a w h => hQ c a _ _ w h) (Or.inl ⟨by rfl, ?_⟩) hHeld ?_
      rotate_left
      · intro w hSw
        go_simp
        with_reducible rfl
      simp only [Act.put, List.getElem_toArray, List.getElem_cons_zero, List.getElem_cons_succ, List.setIfInBounds_toArray, List.set_cons_zero, List.set_cons_succ]
      refine wpAnyH_take (i := 5) (v := ?_) rfl (by kernel_rfl) (by kernel_rfl) (by kernel_rfl) (fun c a w h => hQ c a _ _ w h) (Or.inl ⟨by rfl, ?_⟩) hHeld ?_
      rotate_left
      · intro w hSw
        go_simp
        with_reducible rfl
      simp only [Act.put, List.getElem_toArray, List.getElem_cons_zero, List.getElem_cons_succ, List.setIfInBounds_toArray, List.set_cons_zero, List.set_cons_succ]
      refine wpAnyH_ready (rs := [7]) (by kernel_rfl) (by simp) ?_
      refine AllReadyH.cons rfl (fun K hK => ?_) AllReadyH.nil
      obtain ⟨g0, g1, g2, g3, g4, g5, h0, h1, h2, h3, h4, h5⟩ := blk6 HX.out
      go_simp
      refine hK.out _ _ (HS.out _ (bset6 HB0.out hge)) (fun hHeld => ?_)
      clear hK K hHeld g0 g1 g2 g3 g4 g5 h0 h1 h2 h3 h4 h5
      refine fin (fun W => Below w.heap.size w W ∧ Blk W (y2.heap.size) 33 #[.int .i64 (-131072), .int .i64 0, .int .i64 0, .int .i64 0, .int .i64 65536, .int .i64 0]) ⟨bset6 HB0.out hge, set6 HX.out⟩ ?_
      clear HB0 HX
      rintro y10 ⟨hb0, hx⟩
      have HB0 := Lib.hid hb0
      have HX := Lib.hid hx
      clear hb0 hx
      have hHeld := HS.out _ HB0.out
      clear hge
      refine wpAnyH_take (i := 8) (v := ?_) rfl (by kernel_rfl) (by kernel_rfl) (by kernel_rfl) (fun c a w h => hQ c a _ _ w h) (Or.inl ⟨by rfl, ?_⟩) hHeld ?_
      rotate_left
      · intro w hSw
        go_simp
        with_reducible rfl
      simp only [Act.put, List.getElem_toArray, List.getElem_cons_zero, List.getElem_cons_succ, List.setIfInBounds_toArray, List.set_cons_zero, List.set_cons_succ]
      refine wpAnyH_done (by kernel_rfl) ?_ _
      clear hHeld
      exact HK.out _ _ HX.out HB0.out
  · skip
    go_simp
    refine hK.out _ _ (HS.out _ (balloc HB0.out _)) (fun hHeld => ?_)
    clear hK K hHeld
    have hge : w.heap.size ≤ y0.heap.size := HB0.out.size
    refine fin (fun W => Below w.heap.size w W ∧ Blk W (y0.heap.size) 33 #[.int .i64 0, .int .i64 0, .int .i64 0, .int .i64 0, .int .i64 0, .int .i64 0]) ⟨balloc HB0.out _, Blk.new _ _ _⟩ ?_
    clear HB0
    rintro y11 ⟨hb0, hx⟩
    have HB0 := Lib.hid hb0
    have HX := Lib.hid hx
    clear hb0 hx
    have hHeld := HS.out _ HB0.out
    refine wpAnyH_ready (rs := [0]) (by kernel_rfl) (by simp) ?_
    refine AllReadyH.cons rfl (fun K hK => ?_) AllReadyH.nil
    go_simp
    go_at_call 21
    refine (lv_turn _).mono ?_
    rintro e x12 ⟨rfl, b1⟩
    go_wp2_with fail
    refine hK.out _ _ (HS.out _ (bthen HB0.out b1)) (fun hHeld => ?_)
    clear hK K hHeld
    refine fin (fun W => Below w.heap.size w W ∧ Blk W (y0.heap.size) 33 #[.int .i64 0, .int .i64 0, .int .i64 0, .int .i64 0, .int .i64 0, .int .i64 0]) ⟨bthen HB0.out b1, HX.out.keep b1⟩ ?_
    clear HB0 HX
    rintro y13 ⟨hb0, hx⟩
    have HB0 := Lib.hid hb0
    have HX := Lib.hid hx
    clear hb0 hx
    have hHeld := HS.out _ HB0.out
    clear b1
    refine wpAnyH_ready (rs := [2]) (by kernel_rfl) (by simp) ?_
    refine AllReadyH.cons rfl (fun K hK => ?_) AllReadyH.nil
    go_simp
    go_at_call 12
    refine (lv_carry _).mono ?_
    rintro e x14 ⟨rfl, b1⟩
    go_wp2_with fail
    refine hK.out _ _ (HS.out _ (bthen HB0.out b1)) (fun hHeld => ?_)
    clear hK K hHeld
    refine fin (fun W => Below w.heap.size w W ∧ Blk W (y0.heap.size) 33 #[.int .i64 0, .int .i64 0, .int .i64 0, .int .i64 0, .int .i64 0, .int .i64 0]) ⟨bthen HB0.out b1, HX.out.keep b1⟩ ?_
    clear HB0 HX
    rintro y15 ⟨hb0, hx⟩
    have HB0 := Lib.hid hb0
    have HX := Lib.hid hx
    clear hb0 hx
    have hHeld := HS.out _ HB0.out
    clear b1
    refine wpAnyH_take (i := 3) (v := ?_) rfl (by kernel_rfl) (by kernel_rfl) (by kernel_rfl) (fun c a w h => hQ c a _ _ w h) (Or.inl ⟨by rfl, ?_⟩) hHeld ?_
    rotate_left
    · intro w hSw
      go_simp
      with_reducible rfl
    simp only [Act.put, List.getElem_toArray, List.getElem_cons_zero, List.getElem_cons_succ, List.setIfInBounds_toArray, List.set_cons_zero, List.set_cons_succ]
    refine wpAnyH_take (i := 4) (v := ?_) rfl (by kernel_rfl) (by kernel_rfl) (by kernel_rfl) (fun c a w h => hQ c a _ _ w h) (Or.inl ⟨by rfl, ?_⟩) hHeld ?_
    rotate_left
    · intro w hSw
      go_simp
      with_reducible rfl
    simp only [Act.put, List.getElem_toArray, List.getElem_cons_zero, List.getElem_cons_succ, List.setIfInBounds_toArray, List.set_cons_zero, List.set_cons_succ]
    refine wpAnyH_take (i := 5) (v := ?_) rfl (by kernel_rfl) (by kernel_rfl) (by kernel_rfl) (fun c a w h => hQ c a _ _ w h) (Or.inl ⟨by rfl, ?_⟩) hHeld ?_
    rotate_left
    · intro w hSw
      go_simp
      with_reducible rfl
    simp only [Act.put, List.getElem_toArray, List.getElem_cons_zero, List.getElem_cons_succ, List.setIfInBounds_toArray, List.set_cons_zero, List.set_cons_succ]
    refine wpAnyH_ready (rs := [7]) (by kernel_rfl) (by simp) ?_
    refine AllReadyH.cons rfl (fun K hK => ?_) AllReadyH.nil
    obtain ⟨g0, g1, g2, g3, g4, g5, h0, h1, h2, h3, h4, h5⟩ := blk6 HX.out
    go_simp
    refine hK.out _ _ (HS.out _ (bset6 HB0.out hge)) (fun hHeld => ?_)
    clear hK K hHeld g0 g1 g2 g3 g4 g5 h0 h1 h2 h3 h4 h5
    refine fin (fun W => Below w.heap.size w W ∧ Blk W (y0.heap.size) 33 #[.int .i64 (-131072), .int .i64 0, .int .i64 0, .int .i64 0, .int .i64 65536, .int .i64 0]) ⟨bset6 HB0.out hge, set6 HX.out⟩ ?_
    clear HB0 HX
    rintro y16 ⟨hb0, hx⟩
    have HB0 := Lib.hid hb0
    have HX := Lib.hid hx
    clear hb0 hx
    have hHeld := HS.out _ HB0.out
    clear hge
    refine wpAnyH_take (i := 8) (v := ?_) rfl (by kernel_rfl) (by kernel_rfl) (by kernel_rfl) (fun c a w h => hQ c a _ _ w h) (Or.inl ⟨by rfl, ?_⟩) hHeld ?_
    rotate_left
    · intro w hSw
      go_simp
      with_reducible rfl
    simp only [Act.put, List.getElem_toArray, List.getElem_cons_zero, List.getElem_cons_succ, List.setIfInBounds_toArray, List.set_cons_zero, List.set_cons_succ]
    refine wpAnyH_done (by kernel_rfl) ?_ _
    clear hHeld
    exact HK.out _ _ HX.out HB0.out

set_option maxHeartbeats 2000000 in
theorem shalive_any (w : World) :
    Calls Try.prog 5 #[] w fun e w' => e = .returned (.bool true) ∧ Below w.heap.size w w' := by
  have heq := eqBox
  go_enter Try.func5, Try.ntmps5
  go_wp2
  refine shreg2 (fun _ _ d _ _ h => by cases d <;> exact h) (Blk.new w _ _) (fun G W kc hb => ?_)
  have KB := Lib.hid ((Blk.new w 33 _).keep hb)
  have KC := Lib.hid kc
  have HB := Lib.hid (bthen (alloc_below _ _) hb)
  clear kc hb
  obtain ⟨d0, d1, d2, d3, d4, d5, _⟩ := blk6 KB.out
  go_wp2_with fail
  refine (lv_span _).mono ?_
  rintro e w1 ⟨rfl, b1⟩
  replace KB := Lib.hid (KB.out.keep b1)
  replace KC := Lib.hid (KC.out.keep b1)
  replace HB := Lib.hid (bthen HB.out b1)
  clear b1 d0 d1 d2 d3 d4 d5
  obtain ⟨d0, d1, d2, d3, d4, d5, _⟩ := blk6 KB.out
  obtain ⟨c0, c1, c2, c3, c4, c5, _⟩ := blk6 KC.out
  go_wp2_with fail
  refine (lv_in _).mono ?_
  rintro e w2 ⟨rfl, b2⟩
  replace KB := Lib.hid (KB.out.keep b2)
  replace HB := Lib.hid (bthen HB.out b2)
  clear b2 d0 d1 d2 d3 d4 d5 c0 c1 c2 c3 c4 c5
  obtain ⟨d0, d1, d2, d3, d4, d5, _⟩ := blk6 KB.out
  go_wp2_with fail
  refine (lv_out _).mono ?_
  rintro e w3 ⟨rfl, b3⟩
  replace HB := Lib.hid (bthen HB.out b3)
  clear b3
  go_wp2
  go_ret
  exact ⟨rfl, HB.out⟩

end Go.Proofs.Ythdgldoailjhhaa
