/-
  3 texts in one file, each with its own heading.
-/
import Derived.Test.YtkondkajpmafkaaGreatMT36
import Derived.Test.YtkondkajpmafkaaGreatMT41
import Derived.Test.YtkondkajpmafkaaGreatMT12
/-
  A statement of the landed scene's Node that draws its order, for any frame.
-/
namespace Go.Proofs.YtkondkajpmafkaaGreat
open Go.RowKit

theorem nx_flow (n : Nd) : NXs (cNd n) 56 := ⟨rfl, by kernel_rfl, by kernel_rfl, all_oneCell_toArray (cNd_one n)⟩
set_option maxHeartbeats 8000000 in
set_option maxRecDepth 100000 in
theorem lnode_r4 {u0 u2 u3 u4 u5 u7 u8 u9 u10 u11 u12 u13 u14 u15 u16 u17 u18 u19 u20 u21 u22 u23 u24 u25 u26 u27 u28 u29 u30 u31 u32 u33 u34 u35 u36 u37 u38 u39 u40 u41 u42 u43 : Value} {Q : Exit → Go.Act → World → Prop} {w : World} {g6 : Nat} {id hs : Int} {hb : Bool} {XS X1 : List Value}
    (hQ : ∀ c a d v w, Q (.panic c) (a.put d v) w → Q (.panic c) a w)
    (hS : ∀ W, Below w.heap.size w W → W.cell? ⟨g6, 0, none⟩ = some (.int .i64 hs))
    (h1 : ∀ W, Calls Tryz.prog 51 #[] W fun e w' => e = .returned (.agg XS.toArray) ∧ Below W.heap.size W w')
    (h5 : ∀ W a, Row W a 1 [4] → Calls Tryz.prog 52 #[.int .i64 hs, .slice a 1 1] W fun e w' => e = .returned (.bool hb) ∧ W = w')
    (hbd : ∀ W, (Instr.build 56 #[(0, .int .i64 id), (1, .int .i64 (-1)), (2, .agg XS.toArray), (3, .bool hb)]).run Tryz.prog W = .ok (.agg X1.toArray) W)
    (hX1 : NXs X1 56)
    (hk : ∀ W' a8 a4, Below w.heap.size w W' → Blk W' a8 56 X1.toArray → w.heap.size ≤ a8 → Q .normal { tmps := #[u0, .int .i64 id, u2, u3, u4, u5, .pointer (some ⟨g6, 0, none⟩), u7, .pointer (some ⟨a8, 0, none⟩), u9, u10, u11, u12, u13, u14, u15, u16, u17, u18, u19, .int .i64 id, .agg XS.toArray, .pointer (some ⟨g6, 0, none⟩), .int .i64 hs, .slice (some ⟨a4, 0, none⟩) 1 1, .bool hb, .agg X1.toArray, u27, u28, u29, u30, u31, u32, u33, u34, u35, u36, u37, u38, u39, u40, u41, u42, u43], defers := [] } W') :
    (Code.region 4 #[{ dst := some 20, op := Op.move (Operand.tmp 1), type := 31, pos := "scene.go:128", after := #[], guard := none }, { dst := some 21, op := Op.call { callee := Callee.value (Operand.func 51), args := #[], argTypes := #[] }, type := 37, pos := "scene.go:128", after := #[], guard := none }, { dst := some 22, op := Op.fieldAddr 43 (Operand.tmp 6) 0, type := 0, pos := "scene.go:128", after := #[], guard := none }, { dst := some 23, op := Op.load 34 (Operand.tmp 22), type := 34, pos := "scene.go:128", after := #[{ on := 2, ground := Ground.data }], guard := none }, { dst := some 24, op := Op.buildSlice 44 1 #[(0, Operand.const (Value.int IntKind.i64 4))], type := 44, pos := "scene.go:128", after := #[], guard := none }, { dst := some 25, op := Op.call { callee := Callee.value (Operand.func 52), args := #[Operand.tmp 23, Operand.tmp 24], argTypes := #[34, 44] }, type := 4, pos := "scene.go:128", after := #[{ on := 3, ground := Ground.data }, { on := 4, ground := Ground.data }, { on := 1, ground := Ground.chain }], guard := none }, { dst := some 26, op := Op.build 56 #[(0, Operand.tmp 20), (1, Operand.const (Value.int IntKind.i64 (-1))), (2, Operand.tmp 21), (3, Operand.tmp 25)], type := 56, pos := "scene.go:128", after := #[{ on := 0, ground := Ground.data }, { on := 1, ground := Ground.data }, { on := 5, ground := Ground.data }], guard := none }, { dst := some 8, op := Op.alloc 56, type := 0, pos := "scene.go:128", after := #[], guard := none }, { dst := none, op := Op.store 56 (Operand.tmp 8) (Operand.tmp 26), type := 0, pos := "scene.go:128", after := #[{ on := 7, ground := Ground.data }, { on := 6, ground := Ground.data }, { on := 5, ground := Ground.chain }, { on := 0, ground := Ground.phase }, { on := 1, ground := Ground.phase }, { on := 2, ground := Ground.phase }, { on := 3, ground := Ground.phase }, { on := 4, ground := Ground.phase }, { on := 5, ground := Ground.phase }, { on := 6, ground := Ground.phase }, { on := 7, ground := Ground.phase }], guard := none }] true).wp Tryz.prog Q { tmps := #[u0, .int .i64 id, u2, u3, u4, u5, .pointer (some ⟨g6, 0, none⟩), u7, u8, u9, u10, u11, u12, u13, u14, u15, u16, u17, u18, u19, u20, u21, u22, u23, u24, u25, u26, u27, u28, u29, u30, u31, u32, u33, u34, u35, u36, u37, u38, u39, u40, u41, u42, u43], defers := [] } w := by
  have HK := Lib.hid hk
  have HS := Lib.hid hS
  have H1 := Lib.hid h1
  have H5 := Lib.hid h5
  have HBd := Lib.hid hbd
  have HX1 := Lib.hid hX1
  clear hk hS h1 h5 hbd hX1
  refine wp_region_held_drew (S := fun w' => w'.cell? ⟨g6, 0, none⟩ = some (.int .i64 hs)) (by kernel_rfl) (HS.out _ (drew_below _)) (fun hHeld => ?_)
  refine tk 0 hHeld ?_ (hQ := fun c a w h => hQ c a _ _ w h)
  refine tk 2 hHeld ?_ (hQ := fun c a w h => hQ c a _ _ w h)
  refine tk 3 hHeld ?_ (hQ := fun c a w h => hQ c a _ _ w h)
  refine fin (fun W => Below w.heap.size w W) (drew_below _) ?_
  clear hHeld
  rintro y0 hb0
  have HB0 := Lib.hid hb0
  clear hb0
  have hHeld := HS.out _ HB0.out
  refine wpAnyH_ready (rs := [1, 4, 7]) (by kernel_rfl) (by simp) ?_
  refine AllReadyH.cons rfl (fun K hK => ?_) (AllReadyH.cons rfl (fun K hK => ?_) (AllReadyH.cons rfl (fun K hK => ?_) AllReadyH.nil))
  · skip
    go_simp
    go_at_call 51
    refine (H1.out _).mono ?_
    rintro e x0 ⟨rfl, b1⟩
    go_wp2_with fail
    refine hK.out _ _ (HS.out _ (bthen HB0.out b1)) (fun hHeld => ?_)
    clear hK K hHeld
    refine fin (fun W => Below w.heap.size w W) (bthen HB0.out b1) ?_
    clear HB0
    rintro y1 hb0
    have HB0 := Lib.hid hb0
    clear hb0
    have hHeld := HS.out _ HB0.out
    clear b1
    refine wpAnyH_ready (rs := [4, 7]) (by kernel_rfl) (by simp) ?_
    refine AllReadyH.cons rfl (fun K hK => ?_) (AllReadyH.cons rfl (fun K hK => ?_) AllReadyH.nil)
    · skip
      go_simp
      refine hK.out _ _ (HS.out _ (balloc HB0.out _)) (fun hHeld => ?_)
      clear hK K hHeld
      refine fin (fun W => Below w.heap.size w W ∧ Row W (some ⟨y1.heap.size, 0, none⟩) 1 [4]) ⟨balloc HB0.out _, row1 _ _ _⟩ ?_
      clear HB0
      obtain ⟨a4, hgen⟩ : ∃ n, n = y1.heap.size := ⟨_, rfl⟩
      rw [← hgen]
      clear hgen
      rintro y2 ⟨hb0, r4⟩
      have HB0 := Lib.hid hb0
      have R4 := Lib.hid r4
      clear hb0 r4
      have hHeld := HS.out _ HB0.out
      refine wpAnyH_ready (rs := [5, 7]) (by kernel_rfl) (by simp) ?_
      refine AllReadyH.cons rfl (fun K hK => ?_) (AllReadyH.cons rfl (fun K hK => ?_) AllReadyH.nil)
      · skip
        go_simp
        go_at_call 52
        refine (H5.out _ _ R4.out).mono ?_
        rintro e x2 ⟨rfl, rfl⟩
        go_wp2_with fail
        refine hK.out _ _ (HS.out _ HB0.out) (fun hHeld => ?_)
        clear hK K
        refine wpAnyH_take (i := 6) (v := .agg X1.toArray) rfl (by kernel_rfl) (by kernel_rfl) (by kernel_rfl) (fun c a w h => hQ c a _ _ w h) (yieldsIf_bld4 (by rfl) 56 (.tmp 20) (.const (.int .i64 (-1))) (.tmp 21) (.tmp 25) rfl (.int .i64 id) (.int .i64 (-1)) (.agg XS.toArray) (.bool hb) (.agg X1.toArray) rfl rfl rfl rfl HBd.out) hHeld ?_
        simp only [Act.put, List.getElem_toArray, List.getElem_cons_zero, List.getElem_cons_succ, List.setIfInBounds_toArray, List.set_cons_zero, List.set_cons_succ]
        refine rd 7 (fun K hK => ?_)
        have h8 : w.heap.size ≤ y2.heap.size := HB0.out.size
        go_simp
        refine hK.out _ _ (HS.out _ (balloc HB0.out _)) (fun hHeld => ?_)
        clear hK K hHeld
        refine fin (fun W => Below w.heap.size w W ∧ Blk W y2.heap.size 56 (cNd n0d).toArray ∧ Row W (some ⟨a4, 0, none⟩) 1 [4]) ⟨balloc HB0.out _, Blk.new _ _ _, row_keep R4.out (alloc_below _ _)⟩ ?_
        clear HB0
        clear R4
        obtain ⟨a8, hgen⟩ : ∃ n, n = y2.heap.size := ⟨_, rfl⟩
        rw [← hgen] at h8 ⊢
        clear hgen
        rintro y3 ⟨hb0, k8, r4⟩
        have HB0 := Lib.hid hb0
        have K8 := Lib.hid k8
        have R4 := Lib.hid r4
        clear hb0 k8 r4
        have hHeld := HS.out _ HB0.out
        refine rd 8 (fun K hK => ?_)
        try rw [if_pos (by rfl)]
        refine wp_store_mid 56 (.tmp 8) (.tmp 26) rfl a8 0 X1.toArray rfl rfl (blk_there K8.out (by rw [List.size_toArray, HX1.out.len]; exact Nat.le_refl 15)) HX1.out.sizea HX1.out.onea ?_
        have HB9 : Hid (Below w.heap.size w (y3.setCells a8 0 X1)) := Lib.hid (below_setCells X1 HB0.out h8)
        refine hK.out _ _ (HS.out _ HB9.out) (fun hHeld => ?_)
        clear hK K
        refine wpAnyH_done (by kernel_rfl) ?_ _
        clear hHeld
        exact HK.out _ a8 a4 HB9.out (blk_over K8.out (by rw [HX1.out.len]; rfl)) h8
      · skip
        have h8 : w.heap.size ≤ y2.heap.size := HB0.out.size
        go_simp
        refine hK.out _ _ (HS.out _ (balloc HB0.out _)) (fun hHeld => ?_)
        clear hK K hHeld
        refine fin (fun W => Below w.heap.size w W ∧ Blk W y2.heap.size 56 (cNd n0d).toArray ∧ Row W (some ⟨a4, 0, none⟩) 1 [4]) ⟨balloc HB0.out _, Blk.new _ _ _, row_keep R4.out (alloc_below _ _)⟩ ?_
        clear HB0
        clear R4
        obtain ⟨a8, hgen⟩ : ∃ n, n = y2.heap.size := ⟨_, rfl⟩
        rw [← hgen] at h8 ⊢
        clear hgen
        rintro y4 ⟨hb0, k8, r4⟩
        have HB0 := Lib.hid hb0
        have K8 := Lib.hid k8
        have R4 := Lib.hid r4
        clear hb0 k8 r4
        have hHeld := HS.out _ HB0.out
        refine rd 5 (fun K hK => ?_)
        go_simp
        go_at_call 52
        refine (H5.out _ _ R4.out).mono ?_
        rintro e x4 ⟨rfl, rfl⟩
        go_wp2_with fail
        refine hK.out _ _ (HS.out _ HB0.out) (fun hHeld => ?_)
        clear hK K
        refine wpAnyH_take (i := 6) (v := .agg X1.toArray) rfl (by kernel_rfl) (by kernel_rfl) (by kernel_rfl) (fun c a w h => hQ c a _ _ w h) (yieldsIf_bld4 (by rfl) 56 (.tmp 20) (.const (.int .i64 (-1))) (.tmp 21) (.tmp 25) rfl (.int .i64 id) (.int .i64 (-1)) (.agg XS.toArray) (.bool hb) (.agg X1.toArray) rfl rfl rfl rfl HBd.out) hHeld ?_
        simp only [Act.put, List.getElem_toArray, List.getElem_cons_zero, List.getElem_cons_succ, List.setIfInBounds_toArray, List.set_cons_zero, List.set_cons_succ]
        refine rd 8 (fun K hK => ?_)
        try rw [if_pos (by rfl)]
        refine wp_store_mid 56 (.tmp 8) (.tmp 26) rfl a8 0 X1.toArray rfl rfl (blk_there K8.out (by rw [List.size_toArray, HX1.out.len]; exact Nat.le_refl 15)) HX1.out.sizea HX1.out.onea ?_
        have HB9 : Hid (Below w.heap.size w (y4.setCells a8 0 X1)) := Lib.hid (below_setCells X1 HB0.out h8)
        refine hK.out _ _ (HS.out _ HB9.out) (fun hHeld => ?_)
        clear hK K
        refine wpAnyH_done (by kernel_rfl) ?_ _
        clear hHeld
        exact HK.out _ a8 a4 HB9.out (blk_over K8.out (by rw [HX1.out.len]; rfl)) h8
    · skip
      have h8 : w.heap.size ≤ y1.heap.size := HB0.out.size
      go_simp
      refine hK.out _ _ (HS.out _ (balloc HB0.out _)) (fun hHeld => ?_)
      clear hK K hHeld
      refine fin (fun W => Below w.heap.size w W ∧ Blk W y1.heap.size 56 (cNd n0d).toArray) ⟨balloc HB0.out _, Blk.new _ _ _⟩ ?_
      clear HB0
      obtain ⟨a8, hgen⟩ : ∃ n, n = y1.heap.size := ⟨_, rfl⟩
      rw [← hgen] at h8 ⊢
      clear hgen
      rintro y5 ⟨hb0, k8⟩
      have HB0 := Lib.hid hb0
      have K8 := Lib.hid k8
      clear hb0 k8
      have hHeld := HS.out _ HB0.out
      refine rd 4 (fun K hK => ?_)
      go_simp
      refine hK.out _ _ (HS.out _ (balloc HB0.out _)) (fun hHeld => ?_)
      clear hK K hHeld
      refine fin (fun W => Below w.heap.size w W ∧ Blk W a8 56 (cNd n0d).toArray ∧ Row W (some ⟨y5.heap.size, 0, none⟩) 1 [4]) ⟨balloc HB0.out _, K8.out.keep (alloc_below _ _), row1 _ _ _⟩ ?_
      clear HB0
      clear K8
      obtain ⟨a4, hgen⟩ : ∃ n, n = y5.heap.size := ⟨_, rfl⟩
      rw [← hgen]
      clear hgen
      rintro y6 ⟨hb0, k8, r4⟩
      have HB0 := Lib.hid hb0
      have K8 := Lib.hid k8
      have R4 := Lib.hid r4
      clear hb0 k8 r4
      have hHeld := HS.out _ HB0.out
      refine rd 5 (fun K hK => ?_)
      go_simp
      go_at_call 52
      refine (H5.out _ _ R4.out).mono ?_
      rintro e x6 ⟨rfl, rfl⟩
      go_wp2_with fail
      refine hK.out _ _ (HS.out _ HB0.out) (fun hHeld => ?_)
      clear hK K
      refine wpAnyH_take (i := 6) (v := .agg X1.toArray) rfl (by kernel_rfl) (by kernel_rfl) (by kernel_rfl) (fun c a w h => hQ c a _ _ w h) (yieldsIf_bld4 (by rfl) 56 (.tmp 20) (.const (.int .i64 (-1))) (.tmp 21) (.tmp 25) rfl (.int .i64 id) (.int .i64 (-1)) (.agg XS.toArray) (.bool hb) (.agg X1.toArray) rfl rfl rfl rfl HBd.out) hHeld ?_
      simp only [Act.put, List.getElem_toArray, List.getElem_cons_zero, List.getElem_cons_succ, List.setIfInBounds_toArray, List.set_cons_zero, List.set_cons_succ]
      refine rd 8 (fun K hK => ?_)
      try rw [if_pos (by rfl)]
      refine wp_store_mid 56 (.tmp 8) (.tmp 26) rfl a8 0 X1.toArray rfl rfl (blk_there K8.out (by rw [List.size_toArray, HX1.out.len]; exact Nat.le_refl 15)) HX1.out.sizea HX1.out.onea ?_
      have HB9 : Hid (Below w.heap.size w (y6.setCells a8 0 X1)) := Lib.hid (below_setCells X1 HB0.out h8)
      refine hK.out _ _ (HS.out _ HB9.out) (fun hHeld => ?_)
      clear hK K
      refine wpAnyH_done (by kernel_rfl) ?_ _
      clear hHeld
      exact HK.out _ a8 a4 HB9.out (blk_over K8.out (by rw [HX1.out.len]; rfl)) h8
  · skip
    go_simp
    refine hK.out _ _ (HS.out _ (balloc HB0.out _)) (fun hHeld => ?_)
    clear hK K hHeld
    refine fin (fun W => Below w.heap.size w W ∧ Row W (some ⟨y0.heap.size, 0, none⟩) 1 [4]) ⟨balloc HB0.out _, row1 _ _ _⟩ ?_
    clear HB0
    obtain ⟨a4, hgen⟩ : ∃ n, n = y0.heap.size := ⟨_, rfl⟩
    rw [← hgen]
    clear hgen
    rintro y7 ⟨hb0, r4⟩
    have HB0 := Lib.hid hb0
    have R4 := Lib.hid r4
    clear hb0 r4
    have hHeld := HS.out _ HB0.out
    refine wpAnyH_ready (rs := [1, 7]) (by kernel_rfl) (by simp) ?_
    refine AllReadyH.cons rfl (fun K hK => ?_) (AllReadyH.cons rfl (fun K hK => ?_) AllReadyH.nil)
    · skip
      go_simp
      go_at_call 51
      refine (H1.out _).mono ?_
      rintro e x7 ⟨rfl, b1⟩
      go_wp2_with fail
      refine hK.out _ _ (HS.out _ (bthen HB0.out b1)) (fun hHeld => ?_)
      clear hK K hHeld
      refine fin (fun W => Below w.heap.size w W ∧ Row W (some ⟨a4, 0, none⟩) 1 [4]) ⟨bthen HB0.out b1, row_keep R4.out b1⟩ ?_
      clear HB0
      clear R4
      rintro y8 ⟨hb0, r4⟩
      have HB0 := Lib.hid hb0
      have R4 := Lib.hid r4
      clear hb0 r4
      have hHeld := HS.out _ HB0.out
      clear b1
      refine wpAnyH_ready (rs := [5, 7]) (by kernel_rfl) (by simp) ?_
      refine AllReadyH.cons rfl (fun K hK => ?_) (AllReadyH.cons rfl (fun K hK => ?_) AllReadyH.nil)
      · skip
        go_simp
        go_at_call 52
        refine (H5.out _ _ R4.out).mono ?_
        rintro e x8 ⟨rfl, rfl⟩
        go_wp2_with fail
        refine hK.out _ _ (HS.out _ HB0.out) (fun hHeld => ?_)
        clear hK K
        refine wpAnyH_take (i := 6) (v := .agg X1.toArray) rfl (by kernel_rfl) (by kernel_rfl) (by kernel_rfl) (fun c a w h => hQ c a _ _ w h) (yieldsIf_bld4 (by rfl) 56 (.tmp 20) (.const (.int .i64 (-1))) (.tmp 21) (.tmp 25) rfl (.int .i64 id) (.int .i64 (-1)) (.agg XS.toArray) (.bool hb) (.agg X1.toArray) rfl rfl rfl rfl HBd.out) hHeld ?_
        simp only [Act.put, List.getElem_toArray, List.getElem_cons_zero, List.getElem_cons_succ, List.setIfInBounds_toArray, List.set_cons_zero, List.set_cons_succ]
        refine rd 7 (fun K hK => ?_)
        have h8 : w.heap.size ≤ y8.heap.size := HB0.out.size
        go_simp
        refine hK.out _ _ (HS.out _ (balloc HB0.out _)) (fun hHeld => ?_)
        clear hK K hHeld
        refine fin (fun W => Below w.heap.size w W ∧ Blk W y8.heap.size 56 (cNd n0d).toArray ∧ Row W (some ⟨a4, 0, none⟩) 1 [4]) ⟨balloc HB0.out _, Blk.new _ _ _, row_keep R4.out (alloc_below _ _)⟩ ?_
        clear HB0
        clear R4
        obtain ⟨a8, hgen⟩ : ∃ n, n = y8.heap.size := ⟨_, rfl⟩
        rw [← hgen] at h8 ⊢
        clear hgen
        rintro y9 ⟨hb0, k8, r4⟩
        have HB0 := Lib.hid hb0
        have K8 := Lib.hid k8
        have R4 := Lib.hid r4
        clear hb0 k8 r4
        have hHeld := HS.out _ HB0.out
        refine rd 8 (fun K hK => ?_)
        try rw [if_pos (by rfl)]
        refine wp_store_mid 56 (.tmp 8) (.tmp 26) rfl a8 0 X1.toArray rfl rfl (blk_there K8.out (by rw [List.size_toArray, HX1.out.len]; exact Nat.le_refl 15)) HX1.out.sizea HX1.out.onea ?_
        have HB9 : Hid (Below w.heap.size w (y9.setCells a8 0 X1)) := Lib.hid (below_setCells X1 HB0.out h8)
        refine hK.out _ _ (HS.out _ HB9.out) (fun hHeld => ?_)
        clear hK K
        refine wpAnyH_done (by kernel_rfl) ?_ _
        clear hHeld
        exact HK.out _ a8 a4 HB9.out (blk_over K8.out (by rw [HX1.out.len]; rfl)) h8
      · skip
        have h8 : w.heap.size ≤ y8.heap.size := HB0.out.size
        go_simp
        refine hK.out _ _ (HS.out _ (balloc HB0.out _)) (fun hHeld => ?_)
        clear hK K hHeld
        refine fin (fun W => Below w.heap.size w W ∧ Blk W y8.heap.size 56 (cNd n0d).toArray ∧ Row W (some ⟨a4, 0, none⟩) 1 [4]) ⟨balloc HB0.out _, Blk.new _ _ _, row_keep R4.out (alloc_below _ _)⟩ ?_
        clear HB0
        clear R4
        obtain ⟨a8, hgen⟩ : ∃ n, n = y8.heap.size := ⟨_, rfl⟩
        rw [← hgen] at h8 ⊢
        clear hgen
        rintro y10 ⟨hb0, k8, r4⟩
        have HB0 := Lib.hid hb0
        have K8 := Lib.hid k8
        have R4 := Lib.hid r4
        clear hb0 k8 r4
        have hHeld := HS.out _ HB0.out
        refine rd 5 (fun K hK => ?_)
        go_simp
        go_at_call 52
        refine (H5.out _ _ R4.out).mono ?_
        rintro e x10 ⟨rfl, rfl⟩
        go_wp2_with fail
        refine hK.out _ _ (HS.out _ HB0.out) (fun hHeld => ?_)
        clear hK K
        refine wpAnyH_take (i := 6) (v := .agg X1.toArray) rfl (by kernel_rfl) (by kernel_rfl) (by kernel_rfl) (fun c a w h => hQ c a _ _ w h) (yieldsIf_bld4 (by rfl) 56 (.tmp 20) (.const (.int .i64 (-1))) (.tmp 21) (.tmp 25) rfl (.int .i64 id) (.int .i64 (-1)) (.agg XS.toArray) (.bool hb) (.agg X1.toArray) rfl rfl rfl rfl HBd.out) hHeld ?_
        simp only [Act.put, List.getElem_toArray, List.getElem_cons_zero, List.getElem_cons_succ, List.setIfInBounds_toArray, List.set_cons_zero, List.set_cons_succ]
        refine rd 8 (fun K hK => ?_)
        try rw [if_pos (by rfl)]
        refine wp_store_mid 56 (.tmp 8) (.tmp 26) rfl a8 0 X1.toArray rfl rfl (blk_there K8.out (by rw [List.size_toArray, HX1.out.len]; exact Nat.le_refl 15)) HX1.out.sizea HX1.out.onea ?_
        have HB9 : Hid (Below w.heap.size w (y10.setCells a8 0 X1)) := Lib.hid (below_setCells X1 HB0.out h8)
        refine hK.out _ _ (HS.out _ HB9.out) (fun hHeld => ?_)
        clear hK K
        refine wpAnyH_done (by kernel_rfl) ?_ _
        clear hHeld
        exact HK.out _ a8 a4 HB9.out (blk_over K8.out (by rw [HX1.out.len]; rfl)) h8
    · skip
      have h8 : w.heap.size ≤ y7.heap.size := HB0.out.size
      go_simp
      refine hK.out _ _ (HS.out _ (balloc HB0.out _)) (fun hHeld => ?_)
      clear hK K hHeld
      refine fin (fun W => Below w.heap.size w W ∧ Blk W y7.heap.size 56 (cNd n0d).toArray ∧ Row W (some ⟨a4, 0, none⟩) 1 [4]) ⟨balloc HB0.out _, Blk.new _ _ _, row_keep R4.out (alloc_below _ _)⟩ ?_
      clear HB0
      clear R4
      obtain ⟨a8, hgen⟩ : ∃ n, n = y7.heap.size := ⟨_, rfl⟩
      rw [← hgen] at h8 ⊢
      clear hgen
      rintro y11 ⟨hb0, k8, r4⟩
      have HB0 := Lib.hid hb0
      have K8 := Lib.hid k8
      have R4 := Lib.hid r4
      clear hb0 k8 r4
      have hHeld := HS.out _ HB0.out
      refine rd 1 (fun K hK => ?_)
      go_simp
      go_at_call 51
      refine (H1.out _).mono ?_
      rintro e x11 ⟨rfl, b1⟩
      go_wp2_with fail
      refine hK.out _ _ (HS.out _ (bthen HB0.out b1)) (fun hHeld => ?_)
      clear hK K hHeld
      refine fin (fun W => Below w.heap.size w W ∧ Blk W a8 56 (cNd n0d).toArray ∧ Row W (some ⟨a4, 0, none⟩) 1 [4]) ⟨bthen HB0.out b1, K8.out.keep b1, row_keep R4.out b1⟩ ?_
      clear HB0
      clear K8
      clear R4
      rintro y12 ⟨hb0, k8, r4⟩
      have HB0 := Lib.hid hb0
      have K8 := Lib.hid k8
      have R4 := Lib.hid r4
      clear hb0 k8 r4
      have hHeld := HS.out _ HB0.out
      clear b1
      refine rd 5 (fun K hK => ?_)
      go_simp
      go_at_call 52
      refine (H5.out _ _ R4.out).mono ?_
      rintro e x12 ⟨rfl, rfl⟩
      go_wp2_with fail
      refine hK.out _ _ (HS.out _ HB0.out) (fun hHeld => ?_)
      clear hK K
      refine wpAnyH_take (i := 6) (v := .agg X1.toArray) rfl (by kernel_rfl) (by kernel_rfl) (by kernel_rfl) (fun c a w h => hQ c a _ _ w h) (yieldsIf_bld4 (by rfl) 56 (.tmp 20) (.const (.int .i64 (-1))) (.tmp 21) (.tmp 25) rfl (.int .i64 id) (.int .i64 (-1)) (.agg XS.toArray) (.bool hb) (.agg X1.toArray) rfl rfl rfl rfl HBd.out) hHeld ?_
      simp only [Act.put, List.getElem_toArray, List.getElem_cons_zero, List.getElem_cons_succ, List.setIfInBounds_toArray, List.set_cons_zero, List.set_cons_succ]
      refine rd 8 (fun K hK => ?_)
      try rw [if_pos (by rfl)]
      refine wp_store_mid 56 (.tmp 8) (.tmp 26) rfl a8 0 X1.toArray rfl rfl (blk_there K8.out (by rw [List.size_toArray, HX1.out.len]; exact Nat.le_refl 15)) HX1.out.sizea HX1.out.onea ?_
      have HB9 : Hid (Below w.heap.size w (y12.setCells a8 0 X1)) := Lib.hid (below_setCells X1 HB0.out h8)
      refine hK.out _ _ (HS.out _ HB9.out) (fun hHeld => ?_)
      clear hK K
      refine wpAnyH_done (by kernel_rfl) ?_ _
      clear hHeld
      exact HK.out _ a8 a4 HB9.out (blk_over K8.out (by rw [HX1.out.len]; rfl)) h8
  · skip
    have h8 : w.heap.size ≤ y0.heap.size := HB0.out.size
    go_simp
    refine hK.out _ _ (HS.out _ (balloc HB0.out _)) (fun hHeld => ?_)
    clear hK K hHeld
    refine fin (fun W => Below w.heap.size w W ∧ Blk W y0.heap.size 56 (cNd n0d).toArray) ⟨balloc HB0.out _, Blk.new _ _ _⟩ ?_
    clear HB0
    obtain ⟨a8, hgen⟩ : ∃ n, n = y0.heap.size := ⟨_, rfl⟩
    rw [← hgen] at h8 ⊢
    clear hgen
    rintro y13 ⟨hb0, k8⟩
    have HB0 := Lib.hid hb0
    have K8 := Lib.hid k8
    clear hb0 k8
    have hHeld := HS.out _ HB0.out
    refine wpAnyH_ready (rs := [1, 4]) (by kernel_rfl) (by simp) ?_
    refine AllReadyH.cons rfl (fun K hK => ?_) (AllReadyH.cons rfl (fun K hK => ?_) AllReadyH.nil)
    · skip
      go_simp
      go_at_call 51
      refine (H1.out _).mono ?_
      rintro e x13 ⟨rfl, b1⟩
      go_wp2_with fail
      refine hK.out _ _ (HS.out _ (bthen HB0.out b1)) (fun hHeld => ?_)
      clear hK K hHeld
      refine fin (fun W => Below w.heap.size w W ∧ Blk W a8 56 (cNd n0d).toArray) ⟨bthen HB0.out b1, K8.out.keep b1⟩ ?_
      clear HB0
      clear K8
      rintro y14 ⟨hb0, k8⟩
      have HB0 := Lib.hid hb0
      have K8 := Lib.hid k8
      clear hb0 k8
      have hHeld := HS.out _ HB0.out
      clear b1
      refine rd 4 (fun K hK => ?_)
      go_simp
      refine hK.out _ _ (HS.out _ (balloc HB0.out _)) (fun hHeld => ?_)
      clear hK K hHeld
      refine fin (fun W => Below w.heap.size w W ∧ Blk W a8 56 (cNd n0d).toArray ∧ Row W (some ⟨y14.heap.size, 0, none⟩) 1 [4]) ⟨balloc HB0.out _, K8.out.keep (alloc_below _ _), row1 _ _ _⟩ ?_
      clear HB0
      clear K8
      obtain ⟨a4, hgen⟩ : ∃ n, n = y14.heap.size := ⟨_, rfl⟩
      rw [← hgen]
      clear hgen
      rintro y15 ⟨hb0, k8, r4⟩
      have HB0 := Lib.hid hb0
      have K8 := Lib.hid k8
      have R4 := Lib.hid r4
      clear hb0 k8 r4
      have hHeld := HS.out _ HB0.out
      refine rd 5 (fun K hK => ?_)
      go_simp
      go_at_call 52
      refine (H5.out _ _ R4.out).mono ?_
      rintro e x15 ⟨rfl, rfl⟩
      go_wp2_with fail
      refine hK.out _ _ (HS.out _ HB0.out) (fun hHeld => ?_)
      clear hK K
      refine wpAnyH_take (i := 6) (v := .agg X1.toArray) rfl (by kernel_rfl) (by kernel_rfl) (by kernel_rfl) (fun c a w h => hQ c a _ _ w h) (yieldsIf_bld4 (by rfl) 56 (.tmp 20) (.const (.int .i64 (-1))) (.tmp 21) (.tmp 25) rfl (.int .i64 id) (.int .i64 (-1)) (.agg XS.toArray) (.bool hb) (.agg X1.toArray) rfl rfl rfl rfl HBd.out) hHeld ?_
      simp only [Act.put, List.getElem_toArray, List.getElem_cons_zero, List.getElem_cons_succ, List.setIfInBounds_toArray, List.set_cons_zero, List.set_cons_succ]
      refine rd 8 (fun K hK => ?_)
      try rw [if_pos (by rfl)]
      refine wp_store_mid 56 (.tmp 8) (.tmp 26) rfl a8 0 X1.toArray rfl rfl (blk_there K8.out (by rw [List.size_toArray, HX1.out.len]; exact Nat.le_refl 15)) HX1.out.sizea HX1.out.onea ?_
      have HB9 : Hid (Below w.heap.size w (y15.setCells a8 0 X1)) := Lib.hid (below_setCells X1 HB0.out h8)
      refine hK.out _ _ (HS.out _ HB9.out) (fun hHeld => ?_)
      clear hK K
      refine wpAnyH_done (by kernel_rfl) ?_ _
      clear hHeld
      exact HK.out _ a8 a4 HB9.out (blk_over K8.out (by rw [HX1.out.len]; rfl)) h8
    · skip
      go_simp
      refine hK.out _ _ (HS.out _ (balloc HB0.out _)) (fun hHeld => ?_)
      clear hK K hHeld
      refine fin (fun W => Below w.heap.size w W ∧ Blk W a8 56 (cNd n0d).toArray ∧ Row W (some ⟨y13.heap.size, 0, none⟩) 1 [4]) ⟨balloc HB0.out _, K8.out.keep (alloc_below _ _), row1 _ _ _⟩ ?_
      clear HB0
      clear K8
      obtain ⟨a4, hgen⟩ : ∃ n, n = y13.heap.size := ⟨_, rfl⟩
      rw [← hgen]
      clear hgen
      rintro y16 ⟨hb0, k8, r4⟩
      have HB0 := Lib.hid hb0
      have K8 := Lib.hid k8
      have R4 := Lib.hid r4
      clear hb0 k8 r4
      have hHeld := HS.out _ HB0.out
      refine rd 1 (fun K hK => ?_)
      go_simp
      go_at_call 51
      refine (H1.out _).mono ?_
      rintro e x16 ⟨rfl, b1⟩
      go_wp2_with fail
      refine hK.out _ _ (HS.out _ (bthen HB0.out b1)) (fun hHeld => ?_)
      clear hK K hHeld
      refine fin (fun W => Below w.heap.size w W ∧ Blk W a8 56 (cNd n0d).toArray ∧ Row W (some ⟨a4, 0, none⟩) 1 [4]) ⟨bthen HB0.out b1, K8.out.keep b1, row_keep R4.out b1⟩ ?_
      clear HB0
      clear K8
      clear R4
      rintro y17 ⟨hb0, k8, r4⟩
      have HB0 := Lib.hid hb0
      have K8 := Lib.hid k8
      have R4 := Lib.hid r4
      clear hb0 k8 r4
      have hHeld := HS.out _ HB0.out
      clear b1
      refine rd 5 (fun K hK => ?_)
      go_simp
      go_at_call 52
      refine (H5.out _ _ R4.out).mono ?_
      rintro e x17 ⟨rfl, rfl⟩
      go_wp2_with fail
      refine hK.out _ _ (HS.out _ HB0.out) (fun hHeld => ?_)
      clear hK K
      refine wpAnyH_take (i := 6) (v := .agg X1.toArray) rfl (by kernel_rfl) (by kernel_rfl) (by kernel_rfl) (fun c a w h => hQ c a _ _ w h) (yieldsIf_bld4 (by rfl) 56 (.tmp 20) (.const (.int .i64 (-1))) (.tmp 21) (.tmp 25) rfl (.int .i64 id) (.int .i64 (-1)) (.agg XS.toArray) (.bool hb) (.agg X1.toArray) rfl rfl rfl rfl HBd.out) hHeld ?_
      simp only [Act.put, List.getElem_toArray, List.getElem_cons_zero, List.getElem_cons_succ, List.setIfInBounds_toArray, List.set_cons_zero, List.set_cons_succ]
      refine rd 8 (fun K hK => ?_)
      try rw [if_pos (by rfl)]
      refine wp_store_mid 56 (.tmp 8) (.tmp 26) rfl a8 0 X1.toArray rfl rfl (blk_there K8.out (by rw [List.size_toArray, HX1.out.len]; exact Nat.le_refl 15)) HX1.out.sizea HX1.out.onea ?_
      have HB9 : Hid (Below w.heap.size w (y17.setCells a8 0 X1)) := Lib.hid (below_setCells X1 HB0.out h8)
      refine hK.out _ _ (HS.out _ HB9.out) (fun hHeld => ?_)
      clear hK K
      refine wpAnyH_done (by kernel_rfl) ?_ _
      clear hHeld
      exact HK.out _ a8 a4 HB9.out (blk_over K8.out (by rw [HX1.out.len]; rfl)) h8
section
variable {SB : World → Nat → (Nat → Prop) → St → Prop} {FB : World → Nat → (Nat → Prop) → FT → Prop}
set_option maxHeartbeats 2000000 in
set_option maxRecDepth 100000 in
theorem lall11_any (hC : SCx SB) (hF : FCx FB) {w : World} {g : Nat} {F : Nat → Prop} {X : Sc} (h0 : LXB SB FB w g F X) (hW : WX X) (hB : BSc X 900) :
    Calls Tryz.prog 15 #[.pointer (some ⟨g, 0, none⟩)] w fun e w' => ∃ v, e = .returned v ∧ LRes w w' (alS X.S) v ∧ Below w.heap.size w w' := by
  have kS := hC.kb
  have kF := hF.kb
  obtain ⟨gs, gf, h⟩ := h0.open_
  obtain ⟨c0, c1, hg⟩ := h.reads
  have HEnt := Lib.hid (lent_any c0)
  obtain ⟨Fs, hfi, _, hS⟩ := h.withS kS kF
  have HCa := Lib.hid (hC.all w gs Fs X.S hW.ws (hB.bd.mono (by omega)) (hS w (Below.refl _ _)).1)
  obtain ⟨L, hL⟩ : ∃ L, L = alS X.S := ⟨_, rfl⟩
  rw [← hL] at HCa ⊢
  clear hL h0 hW hB hC hF kS kF h hfi hS
  go_enter Tryz.func15, Tryz.ntmps15
  go_wp2_with fail
  refine HEnt.out.mono ?_
  rintro e w1 ⟨rfl, rfl⟩
  go_wp2_with fail
  refine HCa.out.mono ?_
  rintro e w1 ⟨v, rfl, ⟨a, cap, rfl, lr, ln⟩, b1⟩
  have HR : Hid (LRes w w1 L (.slice a L.length cap) ∧ Below w.heap.size w w1) := Lib.hid ⟨⟨a, cap, rfl, lr, ln⟩, b1⟩
  clear lr ln b1 HCa HEnt c0 c1 hg
  go_wp2
  go_ret
  exact ⟨_, rfl, HR.out.1, HR.out.2⟩
set_option maxHeartbeats 2000000 in
set_option maxRecDepth 100000 in
theorem lchanged11_any (hC : SCx SB) (hF : FCx FB) {w : World} {g : Nat} {F : Nat → Prop} {X : Sc} (h0 : LXB SB FB w g F X) (hW : WX X) (hB : BSc X 900) (since : Int) :
    Calls Tryz.prog 18 #[.pointer (some ⟨g, 0, none⟩), .int .i64 since] w fun e w' => ∃ v, e = .returned v ∧ LRes w w' (chL X.S since) v ∧ Below w.heap.size w w' := by
  have kS := hC.kb
  have kF := hF.kb
  obtain ⟨gs, gf, h⟩ := h0.open_
  obtain ⟨c0, c1, hg⟩ := h.reads
  have HEnt := Lib.hid (lent_any c0)
  obtain ⟨Fs, hfi, _, hS⟩ := h.withS kS kF
  have HCa := Lib.hid (hC.changed w gs Fs X.S since hW.ws (hB.bd.mono (by omega)) (hS w (Below.refl _ _)).1)
  obtain ⟨L, hL⟩ : ∃ L, L = chL X.S since := ⟨_, rfl⟩
  rw [← hL] at HCa ⊢
  clear hL h0 hW hB hC hF kS kF h hfi hS
  go_enter Tryz.func18, Tryz.ntmps18
  go_wp2_with fail
  refine HEnt.out.mono ?_
  rintro e w1 ⟨rfl, rfl⟩
  go_wp2_with fail
  refine HCa.out.mono ?_
  rintro e w1 ⟨v, rfl, ⟨a, cap, rfl, lr, ln⟩, b1⟩
  have HR : Hid (LRes w w1 L (.slice a L.length cap) ∧ Below w.heap.size w w1) := Lib.hid ⟨⟨a, cap, rfl, lr, ln⟩, b1⟩
  clear lr ln b1 HCa HEnt c0 c1 hg
  go_wp2
  go_ret
  exact ⟨_, rfl, HR.out.1, HR.out.2⟩
set_option maxHeartbeats 2000000 in
set_option maxRecDepth 100000 in
theorem lgone11_any (hC : SCx SB) (hF : FCx FB) {w : World} {g : Nat} {F : Nat → Prop} {X : Sc} (h0 : LXB SB FB w g F X) (hW : WX X) (hB : BSc X 900) (since : Int) :
    Calls Tryz.prog 19 #[.pointer (some ⟨g, 0, none⟩), .int .i64 since] w fun e w' => ∃ v, e = .returned v ∧ LRes w w' (goL X.S since) v ∧ Below w.heap.size w w' := by
  have kS := hC.kb
  have kF := hF.kb
  obtain ⟨gs, gf, h⟩ := h0.open_
  obtain ⟨c0, c1, hg⟩ := h.reads
  have HEnt := Lib.hid (lent_any c0)
  obtain ⟨Fs, hfi, _, hS⟩ := h.withS kS kF
  have HCa := Lib.hid (hC.gone w gs Fs X.S since hW.ws (hB.bd.mono (by omega)) (hS w (Below.refl _ _)).1)
  obtain ⟨L, hL⟩ : ∃ L, L = goL X.S since := ⟨_, rfl⟩
  rw [← hL] at HCa ⊢
  clear hL h0 hW hB hC hF kS kF h hfi hS
  go_enter Tryz.func19, Tryz.ntmps19
  go_wp2_with fail
  refine HEnt.out.mono ?_
  rintro e w1 ⟨rfl, rfl⟩
  go_wp2_with fail
  refine HCa.out.mono ?_
  rintro e w1 ⟨v, rfl, ⟨a, cap, rfl, lr, ln⟩, b1⟩
  have HR : Hid (LRes w w1 L (.slice a L.length cap) ∧ Below w.heap.size w w1) := Lib.hid ⟨⟨a, cap, rfl, lr, ln⟩, b1⟩
  clear lr ln b1 HCa HEnt c0 c1 hg
  go_wp2
  go_ret
  exact ⟨_, rfl, HR.out.1, HR.out.2⟩
set_option maxHeartbeats 2000000 in
set_option maxRecDepth 100000 in
theorem ltick11_any (hC : SCx SB) (hF : FCx FB) {w : World} {g : Nat} {F : Nat → Prop} {X : Sc} (h0 : LXB SB FB w g F X) (hW : WX X) (hB : BSc X 900) :
    Calls Tryz.prog 13 #[.pointer (some ⟨g, 0, none⟩)] w fun e w' => e = .returned (.int .i64 X.S.now) ∧ Below w.heap.size w w' := by
  have kS := hC.kb
  have kF := hF.kb
  obtain ⟨gs, gf, h⟩ := h0.open_
  obtain ⟨c0, c1, hg⟩ := h.reads
  have HEnt := Lib.hid (lent_any c0)
  obtain ⟨Fs, hfi, _, hS⟩ := h.withS kS kF
  have HCa := Lib.hid (hC.tick w gs Fs X.S hW.ws (hB.bd.mono (by omega)) (hS w (Below.refl _ _)).1)
  obtain ⟨nw, hnw⟩ : ∃ nw, nw = X.S.now := ⟨_, rfl⟩
  rw [← hnw] at HCa ⊢
  clear hnw h0 hW hB hC hF kS kF h hfi hS
  go_enter Tryz.func13, Tryz.ntmps13
  go_wp2_with fail
  refine HEnt.out.mono ?_
  rintro e w1 ⟨rfl, rfl⟩
  go_wp2_with fail
  refine HCa.out.mono ?_
  rintro e w1 ⟨rfl, b1⟩
  have HB := Lib.hid b1
  clear b1 HCa HEnt c0 c1 hg
  go_wp2
  go_ret
  exact ⟨rfl, HB.out⟩
set_option maxHeartbeats 2000000 in
set_option maxRecDepth 100000 in
theorem lnext11_any (hC : SCx SB) (hF : FCx FB) {w : World} {g : Nat} {F : Nat → Prop} {X : Sc} (h0 : LXB SB FB w g F X) (hW : WX X) (hB : BSc X 900) :
    Calls Tryz.prog 14 #[.pointer (some ⟨g, 0, none⟩)] w fun e w' => e = .returned (.int .i64 (X.S.now + 1)) ∧ ChB (LXB SB FB) w w' g F (xneS X) := by
  have kS := hC.kb
  have kF := hF.kb
  obtain ⟨gs, gf, h⟩ := h0.open_
  obtain ⟨c0, c1, hg⟩ := h.reads
  have HEnt := Lib.hid (lent_any c0)
  obtain ⟨Fs, hfi, _, hS⟩ := h.withS kS kF
  have HCa := Lib.hid (hC.next w gs Fs X.S hW.ws (hB.bd.mono (by omega)) (hS w (Below.refl _ _)).1)
  have HD : Hid (∀ w', Chg SB w w' gs Fs (neS X.S) → ChB (LXB SB FB) w w' g F (xneS X)) := Lib.hid (fun w' q => ((hS w (Below.refl _ _)).2 _ _ q).done)
  obtain ⟨nw, hnw⟩ : ∃ nw, nw = X.S.now := ⟨_, rfl⟩
  rw [← hnw] at HCa ⊢
  clear hnw h0 hW hB hC hF kS kF h hfi hS
  go_enter Tryz.func14, Tryz.ntmps14
  go_wp2_with fail
  refine HEnt.out.mono ?_
  rintro e w1 ⟨rfl, rfl⟩
  go_wp2_with fail
  refine HCa.out.mono ?_
  rintro e w1 ⟨rfl, hc⟩
  have HB := Lib.hid (HD.out _ hc)
  clear hc HCa HEnt c0 c1 hg HD
  go_wp2
  go_ret
  exact ⟨rfl, HB.out⟩
set_option maxHeartbeats 2000000 in
set_option maxRecDepth 100000 in
theorem lcut11_any (hC : SCx SB) (hF : FCx FB) {w : World} {g : Nat} {F : Nat → Prop} {X : Sc} (h0 : LXB SB FB w g F X) (hW : WX X) (hB : BSc X 900) (id : Int) (a : Option Addr) (n cap : Nat) (ks : List Int) (hn : n ≤ 900) (row : Row w a n ks) (haw : Aw F a n) :
    Calls Tryz.prog 31 #[.pointer (some ⟨g, 0, none⟩), .int .i64 id, .slice a n cap] w fun e w' => e = .returned (.int .i64 (cuE X.S id ks)) ∧ ChB (LXB SB FB) w w' g F (xcuS X id ks) := by
  have kS := hC.kb
  have kF := hF.kb
  obtain ⟨gs, gf, h⟩ := h0.open_
  obtain ⟨c0, c1, hg⟩ := h.reads
  have HEnt := Lib.hid (lent_any c0)
  obtain ⟨Fs, hfi, hfn, hS⟩ := h.withS kS kF
  have HCa := Lib.hid (hC.cut w gs Fs X.S id a n cap ks hW.ws (hB.bd.mono (by omega)) (hS w (Below.refl _ _)).1 (by omega) row (aw_new haw row (Nat.le_refl _) hfn))
  have HD : Hid (∀ w', Chg SB w w' gs Fs (cuS X.S id ks) → ChB (LXB SB FB) w w' g F (xcuS X id ks)) := Lib.hid (fun w' q => ((hS w (Below.refl _ _)).2 _ _ q).done)
  obtain ⟨E, hE⟩ : ∃ E, E = cuE X.S id ks := ⟨_, rfl⟩
  rw [← hE] at HCa ⊢
  clear hE h0 hW hB hC hF kS kF h hfi hfn hS row haw
  go_enter Tryz.func31, Tryz.ntmps31
  go_wp2_with fail
  refine HEnt.out.mono ?_
  rintro e w1 ⟨rfl, rfl⟩
  go_wp2_with fail
  refine HCa.out.mono ?_
  rintro e w1 ⟨rfl, hc⟩
  have HB := Lib.hid (HD.out _ hc)
  clear hc HCa HEnt c0 c1 hg HD
  go_wp2
  go_ret
  exact ⟨rfl, HB.out⟩
set_option maxHeartbeats 4000000 in
set_option maxRecDepth 100000 in
theorem lput11_any (hC : SCx SB) (hF : FCx FB) {w : World} {g : Nat} {F : Nat → Prop} {X : Sc} (h0 : LXB SB FB w g F X) (hW : WX X) (hB : BSc X 900) (id : Int) (P : PT) (a : Option Addr) (n cap : Nat) (ks : List Int) (hn : n ≤ 900) (row : Row w a n ks) (haw : Aw F a n) :
    Calls Tryz.prog 30 #[.pointer (some ⟨g, 0, none⟩), .int .i64 id, .agg (pl P).toArray, .slice a n cap] w fun e w' => e = .returned (.int .i64 (puE X.S id P ks)) ∧ ChB (LXB SB FB) w w' g F (xpuS X id P ks) := by
  have kS := hC.kb
  have kF := hF.kb
  obtain ⟨gs, gf, h⟩ := h0.open_
  have HEnt : Hid (∀ u, Below w.heap.size w u → Calls Tryz.prog 47 #[.pointer (some ⟨g, 0, none⟩)] u fun e w' => e = .returned (.pointer (some ⟨gs, 0, none⟩)) ∧ u = w') := Lib.hid (fun u q => lent_any (h.keep kS kF q).reads.1)
  obtain ⟨Fs, hfi, hfn, hS⟩ := h.withS kS kF
  have HPu : Hid (∀ u, Below w.heap.size w u → w.heap.size < u.heap.size → Calls Tryz.prog 63 #[.pointer (some ⟨gs, 0, none⟩), .int .i64 id, .agg (pl P).toArray, .slice a n cap] u fun e w' => e = .returned (.int .i64 (puE X.S id P ks)) ∧ ChB (LXB SB FB) w w' g F (xpuS X id P ks) ∧ w'.heap[w.heap.size]? = u.heap[w.heap.size]?) := Lib.hid (fun u q c => (hC.put u gs Fs X.S id P a n cap ks hW.ws (hB.bd.mono (by omega)) (hS u q).1 (by omega) (row_keep row q) (aw_new haw row (Nat.le_refl _) hfn)).mono fun e w' k => ⟨k.1, ((hS u q).2 _ _ k.2).done, by
    obtain ⟨_, _, f, _⟩ := k.2
    exact f.2.2.2.2 _ c (fun z => by have := hfi _ z; omega)⟩)
  have HSz := Lib.hid (pl_size P)
  have hg : g < w.heap.size := h.reads.2.2
  obtain ⟨E, hE⟩ : ∃ E, E = puE X.S id P ks := ⟨_, rfl⟩
  rw [← hE] at HPu ⊢
  obtain ⟨Xp, hXp⟩ : ∃ Xp, Xp = pl P := ⟨_, rfl⟩
  rw [← hXp] at HPu HSz ⊢
  have KP := Lib.hid (Blk.new w 43 Xp.toArray)
  have HB1 : Hid (Below w.heap.size w (w.alloc (.cells Xp.toArray 43))) := Lib.hid (alloc_below _ _)
  clear hXp hE h0 hW hB hC hF kS kF h hfi hfn hS row haw
  go_enter Tryz.func30, Tryz.ntmps30
  go_upto_region 1 with fail
  refine fin (fun W => W.rangeAt w.heap.size 0 Xp ∧ Below w.heap.size w W ∧ w.heap.size < W.heap.size) ⟨blk_whole KP.out, HB1.out, KP.out.lt⟩ ?_
  clear KP HB1
  rintro W0 ⟨r0, hb0, zb⟩
  have HB1 := Lib.hid hb0
  have HR0 := Lib.hid r0
  clear hb0
  refine wp_region_held_drew (S := fun w' => w'.rangeAt w.heap.size 0 Xp) (by kernel_rfl) (r0) (fun hHeld => ?_)
  refine tk 0 hHeld ?_
  refine tk 2 hHeld ?_
  refine tkl 3 rfl (yieldsIf_load_mid (by rfl) _ _ rfl _ _ rfl _ _ (fun _ h => h) Tryz.underlying43 rfl HSz.out) hHeld ?_
  refine tk 4 hHeld ?_
  refine rd 1 (fun K hK => ?_)
  go_simp
  go_at_call 47
  refine (HEnt.out _ (bthen HB1.out (drew_below _))).mono ?_
  rintro e w2 ⟨rfl, rfl⟩
  go_wp2_with fail
  refine hK.out _ _ (r0) (fun hHeld => ?_)
  clear hK K
  refine rd 5 (fun K hK => ?_)
  go_simp
  go_at_call 63
  refine (HPu.out _ (bthen HB1.out (drew_below _)) zb).mono ?_
  rintro e w3 ⟨rfl, hp3, hk3⟩
  have HP := Lib.hid hp3
  have HR3 := Lib.hid (range_same HR0.out hk3)
  clear hk3 hp3
  go_wp2_with fail
  refine hK.out _ _ (HR3.out) (fun hHeld => ?_)
  clear hK K
  refine tk 6 hHeld ?_
  refine wpAnyH_done (by kernel_rfl) ?_ _
  clear hHeld r0 zb HPu HEnt HR0 HR3
  go_wp2
  go_ret
  exact ⟨rfl, HP.out⟩
set_option maxHeartbeats 4000000 in
set_option maxRecDepth 100000 in
theorem lget11_any (hC : SCx SB) (hF : FCx FB) {w : World} {g : Nat} {F : Nat → Prop} {X : Sc} (h0 : LXB SB FB w g F X) (hW : WX X) (hB : BSc X 900) (id : Int) :
    Calls Tryz.prog 17 #[.pointer (some ⟨g, 0, none⟩), .int .i64 id] w fun e w' => ∃ Y, e = .returned (.tuple #[.agg (List.toArray Y), .bool (getB X.S id)]) ∧ Y = pl (getP X.S id) ∧ Below w.heap.size w w' := by
  have kS := hC.kb
  have kF := hF.kb
  obtain ⟨gs, gf, h⟩ := h0.open_
  have HEnt : Hid (∀ u, Below w.heap.size w u → Calls Tryz.prog 47 #[.pointer (some ⟨g, 0, none⟩)] u fun e w' => e = .returned (.pointer (some ⟨gs, 0, none⟩)) ∧ u = w') := Lib.hid (fun u q => lent_any (h.keep kS kF q).reads.1)
  obtain ⟨Fs, hfi, hfn, hS⟩ := h.withS kS kF
  obtain ⟨ok, hok⟩ : ∃ ok, ok = getB X.S id := ⟨_, rfl⟩
  obtain ⟨Xp, hXp⟩ : ∃ Xp, Xp = pl (getP X.S id) := ⟨_, rfl⟩
  have HGe : Hid (∀ u, Below w.heap.size w u → Calls Tryz.prog 53 #[.pointer (some ⟨gs, 0, none⟩), .int .i64 id] u fun e w' => e = .returned (.tuple #[.agg Xp.toArray, .bool ok]) ∧ Below u.heap.size u w') := Lib.hid (fun u q => (hC.get u gs Fs X.S id hW.ws (hB.bd.mono (by omega)) (hS u q).1).mono fun e w' ⟨Y, k1, k2, k3⟩ => ⟨by rw [k1, k2, hXp, hok], k3⟩)
  have HPX : Hid (PXs Xp) := Lib.hid (by rw [hXp]; exact ⟨pl_len _, pl_size _, pl_size' _, pl_one _⟩)
  have hg : g < w.heap.size := h.reads.2.2
  have K4 := Lib.hid (Blk.new w 43 Z24.toArray)
  have HB4 : Hid (Below w.heap.size w (w.alloc (.cells Z24.toArray 43))) := Lib.hid (alloc_below _ _)
  rw [← hok, ← hXp]
  clear hok hXp h0 hW hB hC hF kS kF h hfi hfn hS
  go_enter Tryz.func17, Tryz.ntmps17
  go_wp2_with fail
  refine (HEnt.out _ HB4.out).mono ?_
  rintro e w1 ⟨rfl, rfl⟩
  go_wp2_with fail
  refine (HGe.out _ HB4.out).mono ?_
  rintro e w1 ⟨rfl, b1⟩
  replace K4 := Lib.hid (K4.out.keep b1)
  replace HB4 := Lib.hid (bthen HB4.out b1)
  have HT4 : Hid (w1.there w.heap.size 0 Xp.toArray.size) := Lib.hid (blk_there K4.out (by rw [List.size_toArray, HPX.out.1]; exact Nat.le_refl 24))
  have L4 : Hid (Blk (w1.setCells w.heap.size 0 Xp) w.heap.size 43 Xp.toArray) := Lib.hid (blk_over K4.out (by rw [HPX.out.1]; rfl))
  clear b1 HGe HEnt
  go_wp2_with (refine wpList_store_mid rfl 43 (.tmp 4) (.tmp 10) rfl w.heap.size 0 Xp.toArray rfl rfl HT4.out HPX.out.2.2.1 HPX.out.2.2.2 ?_)
  refine fin (fun W => Blk W w.heap.size 43 Xp.toArray ∧ Below w.heap.size w W) ⟨L4.out, below_setCells _ HB4.out (Nat.le_refl _)⟩ ?_
  rintro W ⟨kr, hb⟩
  have hl := run_loadVar_mid W w.heap.size 0 43 Xp _ (blk_whole kr) Tryz.underlying43 rfl HPX.out.2.1
  try simp only [Go.Act.put, List.setIfInBounds_toArray, List.set_cons_zero, List.set_cons_succ]
  exact bodyPost_ret (v := .tuple #[.agg Xp.toArray, .bool ok]) (results_cell2 Tryz.results17 rfl rfl hl) rfl ⟨Xp, rfl, rfl, hb⟩
set_option maxHeartbeats 4000000 in
set_option maxRecDepth 100000 in
theorem lparent11_any (hC : SCx SB) (hF : FCx FB) {w : World} {g : Nat} {F : Nat → Prop} {X : Sc} (h0 : LXB SB FB w g F X) (hW : WX X) (hB : BSc X 900) (id : Int) (hid : Rg id) :
    Calls Tryz.prog 43 #[.pointer (some ⟨g, 0, none⟩), .int .i64 id] w fun e w' => e = .returned (.tuple #[.int .i64 (parV (parO X.L id)), .bool (parO X.L id).isSome]) ∧ Below w.heap.size w w' := by
  have kS := hC.kb
  have kF := hF.kb
  obtain ⟨gs, gf, h⟩ := h0.open_
  obtain ⟨c0, c1, hg⟩ := h.reads
  obtain ⟨Ff, hfi, hfn, hFf⟩ := h.withF kS kF
  have hLl : X.L.length ≤ 900 := hB.len
  have HPa := Lib.hid (hF.parent w gf Ff X.L id hW.wf (show X.L.length ≤ 1000 by omega) (hFf w (Below.refl _ _)).1 hid)
  obtain ⟨pv, hpv⟩ : ∃ pv, pv = parV (parO X.L id) := ⟨_, rfl⟩
  obtain ⟨is, his⟩ : ∃ is, is = (parO X.L id).isSome := ⟨_, rfl⟩
  rw [← hpv, ← his] at HPa ⊢
  clear hpv his h0 hW hB hC hF kS kF h hfi hfn hFf hid hLl
  go_enter Tryz.func43, Tryz.ntmps43
  go_wp2_with fail
  refine HPa.out.mono ?_
  rintro e w1 ⟨rfl, b1⟩
  have HB := Lib.hid b1
  clear b1 HPa c0 c1 hg
  go_wp2
  go_ret2
  exact ⟨rfl, HB.out⟩
end
theorem zeros_row {c : Array Value} (hc : c.toList = (List.range 513).map (poolF 0 z0 n0)) (R : Int) (t : TypeId) (w : World) : (w.alloc (.cells (c.setIfInBounds 0 (.int .i64 R)) t)).rowIs w.heap.size t 513 (poolF R z0 n0) := by
  have hs : c.size = 513 := by rw [← Array.length_toList, hc]; simp
  have h := World.rowIs_alloc w (c.setIfInBounds 0 (.int .i64 R)) t (poolF R z0 n0) (fun i hi => by
    have hi' : i < 513 := by simpa [hs] using hi
    by_cases e : i = 0
    · subst e
      rw [Array.getElem?_setIfInBounds_self_of_lt (by omega)]
      rfl
    · rw [Array.getElem?_setIfInBounds_ne (by omega), ← Array.getElem?_toList, hc]
      simp only [List.getElem?_map, List.getElem?_range hi', Option.map_some]
      unfold poolF
      rw [if_neg e, if_neg e])
  rwa [Array.size_setIfInBounds, hs] at h

end Go.Proofs.YtkondkajpmafkaaGreat
